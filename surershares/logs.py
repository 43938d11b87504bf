"""What is told by what was kept: FORMs that are sampled by, LOGs of what was kept, and which can be by which."""

from surershares.basics import frozen, is_number, multiplied
from surershares.errors import BadLog, NoPlace
from surershares.keys import tops, within
from surershares.masks import places_in
from surershares.samplers import check_keys
from surershares.streams import chance_of, is_stream, sampled, values_of


def form_of(pipeline):
    """The FORM of the KEYSETs with a share below one."""
    return tuple(sampled(pipeline))


def is_log(keys, thing):
    """Whether thing is a LOG of the Keys."""
    if not isinstance(thing, tuple) or len(thing) != 2 or not is_stream(keys, thing[0]):
        return False
    stream, kept = thing
    if not isinstance(kept, tuple) or not all([is_number(number) for number in kept]):
        return False
    numbers = [record[0] for record in stream]
    ascending = all([kept[at] < kept[at + 1] for at in range(len(kept) - 1)])
    return ascending and all([number in numbers for number in kept])


def plain_form(form):
    """The KEYSETs of the FORM that are within no other one of it."""
    parts = frozen(form)
    inner = [one for one in parts if any([within(one, other) and one != other for other in parts])]
    return tuple([part for part in parts if part not in inner])


def plain_forms(keys):
    """The list of all plain FORMs, fewer KEYSETs first."""
    found = [()]
    longest = [()]
    while len(longest) > 0:
        # What is made from ordered rows by later places, in order, is ordered again.
        longest = [(*places, place) for places in longest for place in free_places(keys, places)]
        found.extend(longest)
    return [tuple([keys.keysets[place] for place in places]) for places in found]


def free_places(keys, places):
    """The places of KEYSETs behind all these that are within none of them, and within which none of them is."""
    parts = [keys.keysets[place] for place in places]
    later = range(places[-1] + 1 if len(places) > 0 else 0, len(keys.keysets))
    return [place for place in later if is_apart(keys.keysets[place], parts)]


def is_apart(keyset, parts):
    """Whether the KEYSET is within none of these, and none of them is within it."""
    return not any([within(keyset, part) or within(part, keyset) for part in parts])


def covered(one, other):
    """Whether the FORM one is covered by the FORM other."""
    return all([any([within(part, outer) for outer in other]) for part in one])


def told_apart(keys, log, keysets):
    """For each dropped RECORD, by number, those of the KEYSETs for which no kept RECORD has its values."""
    stream, kept = frozen(log)
    known = []
    for keyset in frozen(keysets):
        known.append((keyset, [values_of(keys, keyset, record) for record in stream if record[0] in kept]))
    found = {}
    for record in stream:
        if record[0] not in kept:
            found[record[0]] = [keyset for keyset, met in known if values_of(keys, keyset, record) not in met]
    return [(number, found[number]) for number in sorted(set(list(found)))]


def can_be(keys, log, form):
    """Whether the LOG can be by the FORM."""
    return why_not(keys, log, form) is None


def why_not(keys, log, form):
    """The least number of a dropped RECORD for which the FORM gives no reason; None if there is none."""
    for number, reasons in told_apart(keys, log, form):
        if len(reasons) == 0:
            return number
    return None


def parting(keys, one, other):
    """A LOG that can be by one and not by other, with the fewest RECORDs; None if one is covered by other."""
    outer = frozen(other)
    found = []
    for keyset in frozen(one):
        if not covered((keyset,), outer):
            found.extend([heads for heads in parts_of_set(tops(keys, keyset)) if parts_all(heads, outer)])
    if len(found) == 0:
        return None
    heads = min(found, key=len)
    return (taught(keys, 0, heads), tuple(range(1, len(heads) + 1)))


def parts_of_set(names):
    """All sets of some of these names."""
    return [[names[at] for at in places_in(mask)] for mask in range(1 << len(names))]


def parts_all(heads, form):
    """Whether each KEYSET of the FORM lacks one of these tops."""
    return all([any([head not in part for head in heads]) for part in form])


def taught(keys, number, heads):
    """The STREAM of a RECORD with this number and, for each of these tops, one that is unlike it there alone.

    "There" means in the top and in the names that tell it. All values are numbers of RECORDs of this STREAM, so they
    stand in no other one with other numbers.
    """
    rows = [(number, tuple([number for _ in keys.names]))]
    for own, head in enumerate(heads, start=number + 1):
        rows.append((own, tuple([own if name == head or head in keys.told(name) else number for name in keys.names])))
    return tuple(rows)


def teaching(keys, form):
    """A LOG that can be by this FORM, and by no FORM by which it is not covered."""
    stream = ()
    kept = []
    for keyset in plain_form(form):
        heads = tops(keys, keyset)
        start = len(stream)
        stream = (*stream, *taught(keys, start, heads))
        kept.extend(list(range(start + 1, len(stream))))
    return (stream, tuple(kept))


def whole(form, keyset):
    """Whether Pipelines with this FORM keep all that is alike in the KEYSET, or none of it."""
    return covered(form, (keyset,))


class Logs:
    """Some LOGs of the same Keys."""

    def __init__(self, keys, logs=()):
        self._schema = keys
        self._rows = frozen(logs)
        for place, log in enumerate(self._rows):
            if not is_log(keys, log):
                raise BadLog(place)

    @property
    def schema(self):
        """The Keys."""
        return self._schema

    def __len__(self):
        return len(self._rows)

    def __getitem__(self, k):
        if not 0 <= k < len(self._rows):
            raise NoPlace(k)
        return self._rows[k]

    def __iter__(self):
        raise TypeError("Logs can not be gone through")

    def __eq__(self, other):
        return isinstance(other, Logs) and self._schema == other._schema and self._rows == other._rows

    def misfit(self, form):
        """The place of the first LOG that can not be by the FORM, and the number for which; None if all can."""
        for place, log in enumerate(self._rows):
            number = why_not(self._schema, log, form)
            if number is not None:
                return (place, number)
        return None

    def least_forms(self):
        """The plain FORMs by which all LOGs can be, and that cover no other such one."""
        fit = [form for form in plain_forms(self._schema) if self.misfit(form) is None]
        return [form for form in fit if not any([covered(other, form) and other != form for other in fit])]

    def alone(self):
        """The KEYSETs by each of which alone all LOGs can be."""
        return tuple([keyset for keyset in self._schema.keysets if self.misfit((keyset,)) is None])

    def surely(self, keyset):
        """Whether each FORM by which all LOGs can be looks at least at this KEYSET."""
        rows = [row for log in self._rows for row in told_apart(self._schema, log, self._schema.keysets)]
        return any([all([within(keyset, reason) for reason in reasons]) for _, reasons in rows])

    def chance(self, pipeline):
        """The chance that the Pipeline keeps just what was kept in all LOGs."""
        check_keys(self._schema, pipeline.schema)
        return multiplied([chance_of(pipeline, stream, kept) for stream, kept in self._rows])
