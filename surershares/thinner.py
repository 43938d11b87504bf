"""Which Pipeline can be had from another one by thinning further, and Grids that show where it cannot."""

from surershares.basics import LETTERS, NOUGHT, ONE, at_most, inverse, least_above, less, lesser, lowest, minus
from surershares.basics import multiplied, over, plus, power, repeated, times
from surershares.cells import cell_values
from surershares.errors import NoPlace, NotThinner
from surershares.keys import ITSELF, below, tops, within
from surershares.samplers import Pipeline, Sampler, check_keys


def first_over(pipeline, other):
    """The first KEYSET for which other has the greater share; None if there is none."""
    check_keys(pipeline.schema, other.schema)
    for keyset in pipeline.schema.keysets:
        if less(pipeline.share(keyset), other.share(keyset)):
            return keyset
    return None


def further(pipeline, other):
    """The Pipeline that, behind the one, is alike to the other."""
    keyset = first_over(pipeline, other)
    if keyset is not None:
        raise NotThinner(keyset)
    keys = pipeline.schema
    salt = free_salt([sampler.salt for sampler in pipeline.samplers])
    rates = [(keyset, over(other.share(keyset), pipeline.share(keyset))) for keyset in keys.keysets]
    return Pipeline(keys, [Sampler(keys, keyset, rate, salt=salt) for keyset, rate in rates if rate != ONE])


def free_salt(salts):
    """The shortest SALT that is none of these, the least of several."""
    number = 0
    while salt_at(number) in salts:
        number = number + 1
    return salt_at(number)


def salt_at(number):
    """The SALT at this place of all, the shorter ones first."""
    salt = ""
    while number > 0:
        # One off, as there is no letter for nought: "z" is followed by "aa".
        number, letter = divmod(number - 1, len(LETTERS))
        salt = LETTERS[letter] + salt
    return salt


class Grid:
    """Cells of a KEYSET with many RECORDs in each."""

    def __init__(self, keys, names, n, many):
        self._schema = keys
        self._keyset = keys.closed(names)
        self._n = n
        self._many = many

    @property
    def schema(self):
        """The Keys."""
        return self._schema

    @property
    def keyset(self):
        """The KEYSET."""
        return self._keyset

    @property
    def n(self):
        """How many values each top of the KEYSET has."""
        return self._n

    @property
    def many(self):
        """How many RECORDs there are in each cell."""
        return self._many

    def cells(self):
        """How many cells there are."""
        return power(self._n, len(tops(self._schema, self._keyset)))

    def size(self):
        """How many RECORDs there are."""
        return self.cells() * self._many

    def record(self, place):
        """The RECORD at this place."""
        if not 0 <= place < self.size():
            raise NoPlace(place)
        return (place, cell_values(self._schema, self._keyset, self._n, place // self._many, place))

    def stream(self):
        """The STREAM of all RECORDs."""
        return tuple([self.record(place) for place in range(self.size())])

    def __eq__(self, other):
        if not isinstance(other, Grid) or self._schema != other._schema:
            return False
        return self._keyset == other._keyset and self._n == other._n and self._many == other._many

    def chance(self, pipeline):
        """The chance that in each cell at least one RECORD is kept."""
        check_keys(self._schema, pipeline.schema)
        missed = repeated(minus(ONE, outer_share(pipeline, self._keyset)), self._many)
        return times(self.inner_chance(pipeline), repeated(minus(ONE, missed), self.cells()))

    def inner_chance(self, pipeline):
        """The chance that all coins of the KEYSETs within this one keep."""
        heads = tops(self._schema, self._keyset)
        found = ONE
        for part in below(self._schema, self._keyset):
            values = power(self._n, len([name for name in heads if name in part]))
            found = times(found, repeated(pipeline.share(part), values))
        return found

    def margin(self, pipeline, other):
        """What is above 1 only if the event has a greater chance by other; None without a greater share."""
        check_keys(pipeline.schema, other.schema)
        check_keys(self._schema, pipeline.schema)
        if at_most(other.share(self._keyset), pipeline.share(self._keyset)):
            return None
        return times(lead(pipeline, other, self._keyset, self._n), self.filled(other))

    def filled(self, other):
        """What the chance that no cell is missed is at least, by Bernoulli; nought if this says nothing."""
        if self._keyset == ITSELF:
            return ONE
        n, d = outer_share(other, self._keyset)
        whole = d + self._many * n
        rest = whole - self.cells() * d
        return lowest(rest, whole) if rest > 0 else NOUGHT

    def shows(self, pipeline, other):
        """Whether the Grid shows that other cannot be had from the Pipeline."""
        found = self.margin(pipeline, other)
        return found is not None and less(ONE, found)


def outer_share(pipeline, keyset):
    """The product of the shares of all KEYSETs that are not within this one."""
    return multiplied([pipeline.share(part) for part in pipeline.schema.keysets if not within(part, keyset)])


def growth(pipeline, other, keyset):
    """By how much the share of other, divided by that of the Pipeline, is above one."""
    return minus(over(other.share(keyset), pipeline.share(keyset)), ONE)


def losses(pipeline, other, keyset):
    """The product of what other keeps less for the KEYSETs within this one, itself apart."""
    parts = [part for part in below(pipeline.schema, keyset) if part != keyset]
    return multiplied([lesser(ONE, over(other.share(part), pipeline.share(part))) for part in parts])


def lead(pipeline, other, keyset, n):
    """What other gains over the Pipeline in the KEYSETs within this one, with n values for each top, at least."""
    gained = plus(ONE, times((n, 1), growth(pipeline, other, keyset)))
    return times(gained, losses(pipeline, other, keyset))


def grid_of(pipeline, other):
    """The least Grid that shows that other cannot be had from the Pipeline; None if it can."""
    keyset = first_over(pipeline, other)
    if keyset is None:
        return None
    keys = pipeline.schema
    needed = minus(inverse(losses(pipeline, other, keyset)), ONE)
    n = least_above(over(needed, growth(pipeline, other, keyset)))
    if keyset == ITSELF:
        return Grid(keys, keyset, n, 1)
    return Grid(keys, keyset, n, many_needed(pipeline, other, keyset, n))


def many_needed(pipeline, other, keyset, n):
    """The least number of RECORDs in each cell with which the margin is above 1."""
    gained = lead(pipeline, other, keyset, n)
    cells = Grid(pipeline.schema, keyset, n, 1).cells()
    # lead * (1 - cells / (1 + many * t)) is above 1 exactly if 1 + many * t is above cells * lead / (lead - 1).
    bound = times((cells, 1), over(gained, minus(gained, ONE)))
    return least_above(over(minus(bound, ONE), outer_share(other, keyset)))
