"""Which of two Pipelines spreads less, and the papers that show where it does not."""

from surershares.answers import Unlike, Worths
from surershares.basics import at_most, inverse, least_above, less, minus, over, plus, power, total
from surershares.cells import cell_values
from surershares.errors import NoContrast, NoCrowd, TooLong
from surershares.keys import ITSELF, tops, within
from surershares.samplers import check_keys
from surershares.spreads import spread_of_sum

LONGEST = 1000


def surer_sums(p, q):
    """Whether p spreads no more than q for all sums."""
    check_keys(p.schema, q.schema)
    return all([at_most(p.squares(keyset), q.squares(keyset)) for keyset in p.schema.keysets])


def surer_counts(p, q):
    """Whether p spreads no more than q for all counts."""
    check_keys(p.schema, q.schema)
    return all([at_most(q.together(keyset), p.together(keyset)) for keyset in p.schema.keysets])


def compare(p, q):
    """The text that tells for what one of the Pipelines is surer."""
    check_keys(p.schema, q.schema)
    if p == q:
        return "alike"
    found = surer_for(p, q)
    back = surer_for(q, p)
    if found is None and back is not None:
        return f"other {back}"
    return found or "neither"


def surer_for(p, q):
    """The word for what p is surer than q, if they are not alike; None if for nothing."""
    if q <= p:
        return "all"
    if surer_sums(p, q):
        return "sums"
    return "counts" if surer_counts(p, q) else None


class Contrast:
    """A STREAM and worths of its records, 1 and -1, of which p answers the sum with the greater spread."""

    def __init__(self, p, q, names, many):
        check_keys(p.schema, q.schema)
        self._schema = p.schema
        self._keyset = p.schema.closed(names)
        self._many = many
        self._spreads = (contrast_spread(p, self._keyset, many), contrast_spread(q, self._keyset, many))
        if not is_shown(self._keyset, many, self._spreads):
            raise NoContrast()

    @property
    def keyset(self):
        """The KEYSET."""
        return self._keyset

    @property
    def many(self):
        """How many records each cell has."""
        return self._many

    @property
    def spreads(self):
        """The spreads by p and by q."""
        return self._spreads

    def size(self):
        """How many records there are."""
        return cells_of(self._schema, self._keyset) * self._many

    def stream(self):
        """The STREAM."""
        check_length(self.size())
        return tuple([self.row(number) for number in range(self.size())])

    def row(self, number):
        """The RECORD with this number."""
        cell = number // self._many
        return (number, cell_values(self._schema, self._keyset, 2, cell, number + 1))

    def question(self):
        """The sum of the worths."""
        check_length(self.size())
        return Worths([(number, sign_of(number // self._many)) for number in range(self.size())])

    def __eq__(self, other):
        if not isinstance(other, Contrast) or self._schema != other._schema:
            return False
        same = self._keyset == other._keyset and self._many == other._many
        return same and self._spreads == other._spreads


class Crowd:
    """A STREAM of which p answers how many records there are with the greater spread."""

    def __init__(self, p, q, names, many):
        check_keys(p.schema, q.schema)
        self._schema = p.schema
        self._keyset = p.schema.closed(names)
        self._many = many
        self._spreads = (crowd_spread(p, self._keyset, many), crowd_spread(q, self._keyset, many))
        if not is_shown(self._keyset, many, self._spreads):
            raise NoCrowd()

    @property
    def keyset(self):
        """The KEYSET."""
        return self._keyset

    @property
    def many(self):
        """How many records there are."""
        return self._many

    @property
    def spreads(self):
        """The spreads by p and by q."""
        return self._spreads

    def size(self):
        """How many records there are."""
        return self._many

    def stream(self):
        """The STREAM."""
        check_length(self._many)
        numbers = range(self._many)
        return tuple([(number, cell_values(self._schema, self._keyset, 1, 0, number + 1)) for number in numbers])

    def question(self):
        """How many records there are."""
        check_length(self._many)
        return Unlike(self._schema, ITSELF)

    def __eq__(self, other):
        if not isinstance(other, Crowd) or self._schema != other._schema:
            return False
        same = self._keyset == other._keyset and self._many == other._many
        return same and self._spreads == other._spreads


def check_length(length):
    """Raises TooLong for more records than a STREAM is made of."""
    if length > LONGEST:
        raise TooLong(length)


def is_shown(keyset, many, spreads):
    """Whether the spread by p is the greater one; no two records are alike in their number."""
    return less(spreads[1], spreads[0]) and (keyset != ITSELF or many == 1)


def cells_of(keys, keyset):
    """How many cells a Contrast has."""
    return power(2, len(tops(keys, keyset)))


def sign_of(cell):
    """The worth of a record of this cell: by how many tops have the value 1."""
    sign = 1
    while cell > 0:
        if cell & 1 == 1:
            sign = -sign
        cell = cell >> 1
    return sign


def contrast_spread(pipeline, keyset, many):
    """The spread of a Contrast by the Pipeline."""
    keys = pipeline.schema
    cells = cells_of(keys, keyset)
    squared = []
    for part in keys.keysets:
        if part == keyset:
            squared.append(cells * many * many)
        else:
            # Within the KEYSET some top is left out: there are as many worths of 1 as of -1 in each class.
            squared.append(0 if within(part, keyset) else cells * many)
    return spread_of_sum(squared, many if keyset == () else 0, pipeline)


def crowd_spread(pipeline, keyset, many):
    """The spread of a Crowd by the Pipeline."""
    squared = [many * many if within(part, keyset) else many for part in pipeline.schema.keysets]
    return spread_of_sum(squared, many, pipeline)


def contrast(p, q):
    """The Contrast of the first KEYSET that has one, with the fewest records; None if p is surer for sums."""
    check_keys(p.schema, q.schema)
    for keyset in p.schema.keysets:
        if less(q.squares(keyset), p.squares(keyset)):
            return Contrast(p, q, keyset, contrast_many(p, q, keyset))
    return None


def contrast_many(p, q, keyset):
    """The least number for a Contrast of this KEYSET."""
    outer = [part for part in p.schema.keysets if not within(part, keyset)]
    gained = total([minus(q.squares(part), p.squares(part)) for part in outer])
    return least_above(over(gained, minus(p.squares(keyset), q.squares(keyset))))


def crowd(p, q):
    """The Crowd of the first KEYSET that has one, with the fewest records; None if p is surer for counts."""
    check_keys(p.schema, q.schema)
    for keyset in p.schema.keysets:
        if less(p.together(keyset), q.together(keyset)):
            return Crowd(p, q, keyset, crowd_many(p, q, keyset))
    return None


def crowd_many(p, q, keyset):
    """The least number for a Crowd of this KEYSET."""
    lost = minus(inverse(p.together(keyset)), inverse(q.together(keyset)))
    gained = minus(inverse(q.together(ITSELF)), inverse(p.together(ITSELF)))
    # The spread of p is the greater one exactly if lost * (many - 1) is above what p gains with a single record.
    return least_above(over(plus(lost, gained), lost))


def both_ways(p, q):
    """What shows that p is not surer for sums than q, and that q is not than p."""
    return (contrast(p, q), contrast(q, p))
