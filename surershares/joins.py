"""Joins of two streams that are sampled apart or together, and Crossings that show where together is worse."""

from surershares.basics import ONE, greater, inverse, least_above, lesser, minus, multiplied, over, plus, repeated
from surershares.basics import times, total
from surershares.keys import ITSELF, check_names, joint, within
from surershares.pairings import groups
from surershares.samplers import Pipeline, Sampler, check_keys, least_rates, with_salt
from surershares.streams import values_of
from surershares.surer import check_length
from surershares.thinner import free_salt, outer_share


class Join:
    """Two Pipelines for two sides, and the KEYSET in which what is joined is alike."""

    def __init__(self, left, right, names):
        check_keys(left.schema, right.schema)
        check_names(left.schema.names, names)
        self._left = left
        self._right = right
        self._schema = left.schema
        self._keyset = left.schema.closed(names)
        self._rows = rows_of(left, right)

    @property
    def left(self):
        """The Pipeline of the left side."""
        return self._left

    @property
    def right(self):
        """The Pipeline of the right side."""
        return self._right

    @property
    def keyset(self):
        """The KEYSET in which what is joined is alike."""
        return self._keyset

    @property
    def schema(self):
        """The Keys."""
        return self._schema

    @property
    def shared(self):
        """The KEYSETs whose gain is above one."""
        return tuple([keyset for keyset in self._schema.keysets if self.gain(keyset) != ONE])

    def joined(self, lefts, rights):
        """The pairs of numbers of RECORDs that are joined."""
        return sorted(set([(lefts[at][0], rights[beside][0]) for at, beside in self.places(lefts, rights)]))

    def places(self, lefts, rights):
        """The pairs of places of RECORDs that are joined."""
        keys, keyset = self._schema, self._keyset
        ones = [values_of(keys, keyset, record) for record in lefts]
        others = [values_of(keys, keyset, record) for record in rights]
        return [(at, beside) for at, one in enumerate(ones) for beside, other in enumerate(others) if one == other]

    def weighed(self, lefts, rights, question):
        """The triples of two places of RECORDs that are joined and of both worths multiplied, where this is not 0."""
        ones = worths_of(question[0], lefts)
        others = worths_of(question[1], rights)
        rows = [(at, beside, ones[at] * others[beside]) for at, beside in self.places(lefts, rights)]
        return [row for row in rows if row[2] != 0]

    def value(self, lefts, rights, question=(None, None)):
        """The sum of the worths of all that is joined."""
        return sum([worth for _, _, worth in self.weighed(lefts, rights, question)])

    def chance(self, lefts, rights):
        """The chance that all RECORDs of both are kept."""
        found = ONE
        for keyset, mine, theirs in self._rows:
            ones = [values_of(self._schema, keyset, record) for record in lefts]
            others = [values_of(self._schema, keyset, record) for record in rights]
            found = times(found, chance_in(ones, others, mine, theirs))
        return found

    def answer(self, lefts, rights, question=(None, None)):
        """The sum of the worths of all that is joined, each divided by the chance that both RECORDs are kept."""
        rows = self.weighed(lefts, rights, question)
        return total([over((worth, 1), self.chance([lefts[at]], [rights[beside]])) for at, beside, worth in rows])

    def spread(self, lefts, rights, question=(None, None)):
        """The average of the square of the answer, less the square of the value."""
        rows = self.weighed(lefts, rights, question)
        known = {(at, beside): self.chance([lefts[at]], [rights[beside]]) for at, beside, _ in rows}
        found = []
        for (at, beside, after, behind), worth in groups(self._schema, lefts, rights, rows):
            both = self.chance([lefts[at], lefts[after]], [rights[beside], rights[behind]])
            apart = times(known[(at, beside)], known[(after, behind)])
            found.append(times((worth, 1), over(both, apart)))
        value = sum([worth for _, _, worth in rows])
        return minus(total(found), (value * value, 1))

    def gain(self, keyset):
        """How many times as often two RECORDs that are alike in the KEYSET are kept together, as SALTs are shared."""
        part = tuple(keyset)
        return multiplied([inverse(greater(mine, theirs)) for where, mine, theirs in self._rows if where == part])

    def apart(self, keyset):
        """A Join with alike sides that shares nothing at this KEYSET."""
        part = tuple(keyset)
        keys = self._schema
        salt = free_salt([sampler.salt for sampler in self._left.samplers])
        others = [sampler for sampler in self._right.samplers if sampler.keyset != part]
        own = Sampler(keys, part, self._right.share(part), salt=salt)
        return Join(self._left, Pipeline(keys, [*others, own]), self._keyset)

    def best(self):
        """The Join of both sides that shares all it can within the KEYSET and nothing else."""
        samplers = []
        for sampler in self._right.plain.samplers:
            samplers.append(sampler if within(sampler.keyset, self._keyset) else with_salt(sampler, "r"))
        return Join(self._left.plain, Pipeline(self._schema, samplers), self._keyset)

    def __eq__(self, other):
        if not isinstance(other, Join) or self._keyset != other._keyset:
            return False
        if self._left != other._left or self._right != other._right:
            return False
        return all([self.gain(keyset) == other.gain(keyset) for keyset in self._schema.keysets])


def rows_of(left, right):
    """The triples of a KEYSET and the least shares of both sides, one for each SALT that is shared or not."""
    ones = least_rates(left.samplers)
    others = least_rates(right.samplers)
    rows = []
    for place in [*ones, *[place for place in others if place not in ones]]:
        keyset, mine, theirs = place[0], ones.get(place, ONE), others.get(place, ONE)
        # Numbers of records are apart on both sides, whatever the SALTs.
        rows.extend([(keyset, mine, ONE), (keyset, ONE, theirs)] if keyset == ITSELF else [(keyset, mine, theirs)])
    return rows


def chance_in(ones, others, mine, theirs):
    """The chance that the coins with these values on the left and on the right keep, by the shares of both sides."""
    both = len(set(ones) & set(others))
    apart = times(repeated(mine, len(set(ones)) - both), repeated(theirs, len(set(others)) - both))
    return times(apart, repeated(lesser(mine, theirs), both))


def worths_of(table, records):
    """The worth of each RECORD by one side of a question."""
    if table is None:
        return [1 for _ in records]
    known = {number: worth for number, worth in table}
    return [known.get(record[0], 0) for record in records]


class Crossing:
    """Two STREAMs and a question for which a Join spreads more than it would without sharing at a KEYSET."""

    def __init__(self, join, keyset):
        self._schema = join.schema
        self._inner = join.keyset
        self._outer = joint(join.keyset, keyset)
        shared = gains(join, [part for part in self._schema.keysets if self.is_new(part)])
        spared = over(shared, join.gain(keyset))
        one = swing(join, shared)
        other = swing(join, spared)
        # The difference of both spreads is n * (n * rise - fall): it is above nought from some n on.
        rise = minus(one[0], other[0])
        fall = minus(other[1], one[1])
        self._n = even_from(least_above(over(fall, rise)))
        self._spreads = (spread_at(join, one, self._n), spread_at(join, other, self._n))

    @property
    def n(self):
        """How many RECORDs each side has."""
        return self._n

    @property
    def spreads(self):
        """The spreads of the Join and of the one that does not share."""
        return self._spreads

    @property
    def asked(self):
        """The question."""
        table = tuple([(number, 1 if number & 1 == 0 else -1) for number in range(self._n)])
        return (table, table)

    def is_new(self, part):
        """Whether a KEYSET is within what both KEYSETs have, and not within that of the Join."""
        return within(part, self._outer) and not within(part, self._inner)

    def streams(self):
        """The STREAMs of both sides."""
        check_length(2 * self._n)
        return (self.side(self._n + 1), self.side(2 * self._n + 1))

    def side(self, start):
        """The STREAM of one side, whose other values begin there."""
        return tuple([(number, self.values_at(number, start)) for number in range(self._n)])

    def values_at(self, number, start):
        """The values of the RECORD with this number."""
        own = {name: number + 1 for name in self._outer}
        own.update({name: 0 for name in self._inner})
        return tuple([own.get(name, number + start) for name in self._schema.names])

    def __eq__(self, other):
        return isinstance(other, Crossing) and self._n == other._n and self._spreads == other._spreads


def gains(join, keysets):
    """The product of the gains of these KEYSETs."""
    return multiplied([join.gain(keyset) for keyset in keysets])


def swing(join, gained):
    """By how much the spread grows with the square of n, and with n, if two RECORDs gain so much."""
    left = inverse(outer_share(join.left, join.keyset))
    right = inverse(outer_share(join.right, join.keyset))
    less_one = minus(gained, ONE)
    squared = plus(times(minus(left, ONE), minus(right, ONE)), times(less_one, less_one))
    single = times(times(left, right), minus(inverse(gained), ONE))
    return (squared, minus(single, times(less_one, minus(gained, (3, 1)))))


def spread_at(join, parts, n):
    """The spread with so many RECORDs on each side."""
    inner = [keyset for keyset in join.schema.keysets if within(keyset, join.keyset)]
    kept = times(join.left.together(join.keyset), join.right.together(join.keyset))
    grown = plus(times((n * n, 1), parts[0]), times((n, 1), parts[1]))
    return over(grown, times(kept, gains(join, inner)))


def even_from(number):
    """The least even number that is not below this one."""
    return number + (number & 1)


def crossing(join, keyset):
    """The Crossing that shows that sharing at this KEYSET may spread more; None if it never does."""
    part = tuple(keyset)
    if within(part, join.keyset) or join.gain(part) == ONE:
        return None
    return Crossing(join, part)
