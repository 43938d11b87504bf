"""Keys: names of which some tell others, and the KEYSETs of such names."""

from surershares.basics import frozen, is_name, words_of
from surershares.errors import BadKeyset, BadLine, NoName, Ringed

ITSELF = ("#",)


class Keys:
    """Names of a record, and which of them tell which."""

    def __init__(self, names, tells=()):
        self._names = tuple(sorted(set(names)))
        self._pairs = all_pairs(self._names, frozen(tells))
        self._told = {name: all_told(self._pairs, name) for name in self._names}
        self._keysets = all_keysets(self._names, self._pairs)

    @property
    def names(self):
        """The set of the names."""
        return self._names

    @property
    def pairs(self):
        """The set of all pairs (one, other) of which one tells other."""
        return self._pairs

    @property
    def text(self):
        """A line for each name, then one for each of the pairs."""
        return "\n".join([*self._names, *[f"{one} tells {other}" for one, other in self._pairs]])

    @property
    def keysets(self):
        """All KEYSETs, in their order."""
        return self._keysets

    def tells(self, one, other):
        """Whether one tells other."""
        check_names(self._names, (one, other))
        return other in self._told[one]

    def told(self, name):
        """The set of the names that name tells."""
        check_names(self._names, (name,))
        return self._told[name]

    def __contains__(self, name):
        return name in self._names

    def __len__(self):
        return len(self._names)

    def __eq__(self, other):
        return isinstance(other, Keys) and self._names == other._names and self._pairs == other._pairs

    def closed(self, names):
        """The least KEYSET that has all these names."""
        check_names((*self._names, "#"), names)
        if "#" in names:
            return ITSELF
        reached = {}
        for name in names:
            for other in (name, *self._told[name]):
                reached[other] = True
        return tuple([name for name in self._names if name in reached])

    @staticmethod
    def of(text):
        """The Keys with the names and the tellings of these lines."""
        names = []
        tells = []
        for number, line in enumerate(text.split("\n")):
            mentioned = names_in_line(line)
            if mentioned is None:
                raise BadLine(number)
            names.extend(mentioned)
            if len(mentioned) == 2:
                tells.append(tuple(mentioned))
        return Keys(names, tells)


def names_in_line(line):
    """The names in a line of a text of Keys, two for a telling; None if it is not so written."""
    words = words_of(line)
    if len(words) == 3 and words[1] == "tells":
        words = [words[0], words[2]]
    elif len(words) > 1:
        return None
    return words if all([is_name(word) for word in words]) else None


def check_names(names, asked):
    """Raises NoName for the first one asked that is not in names."""
    for name in asked:
        if name not in names:
            raise NoName(name)


def all_pairs(names, tells):
    """The set of all pairs that follow from tells."""
    check_names(names, [name for pair in tells for name in pair])
    found = {(teller, told): True for teller, told in tells}
    # The middle name goes in the outer loop: so one pass finds chains of any length.
    for middle in names:
        for one in names:
            for other in names:
                if (one, middle) in found and (middle, other) in found:
                    found[(one, other)] = True
    ring = tuple([name for name in names if (name, name) in found])
    if len(ring) > 0:
        raise Ringed(ring)
    return tuple([(one, other) for one in names for other in names if (one, other) in found])


def all_told(pairs, name):
    """The set of the names that name tells."""
    return tuple([other for one, other in pairs if one == name])


def all_keysets(names, pairs):
    """All KEYSETs of these names, in their order."""
    parts = [()]
    for name in names:
        parts = parts + [(*part, name) for part in parts]
    # Sorting keeps the order of what is equal: as many names stay by comparison.
    parts = sorted(sorted(set(parts)), key=len)
    return tuple([*[part for part in parts if is_closed(pairs, part)], ITSELF])


def is_closed(pairs, part):
    """Whether these names have with each one all that it tells."""
    return all([other in part for one, other in pairs if one in part])


def is_keyset(keys, thing):
    """Whether thing is a KEYSET of the Keys."""
    return isinstance(thing, tuple) and thing in keys.keysets


def within(one, other):
    """Whether the KEYSET one is within the KEYSET other."""
    return tuple(other) == ITSELF or all([name in other for name in one])


def joint(one, other):
    """The least KEYSET within which both are."""
    if ITSELF in (tuple(one), tuple(other)):
        return ITSELF
    return tuple(sorted(set([*one, *other])))


def common(one, other):
    """The greatest KEYSET that is within both."""
    if tuple(one) == ITSELF:
        return tuple(other)
    return tuple([name for name in one if within((name,), other)])


def below(keys, keyset):
    """The list of all KEYSETs within this one, in order."""
    return [part for part in keys.keysets if within(part, keyset)]


def tops(keys, keyset):
    """The set of the names of a KEYSET that no other one of its names tells."""
    if tuple(keyset) == ITSELF:
        return ITSELF
    return tuple([name for name in keyset if not any([keys.tells(other, name) for other in keyset])])


def keyset_text(keyset):
    """The text of a KEYSET."""
    return "+".join(keyset) or "-"


def names_in_text(text):
    """The names in the text of a KEYSET, as they stand; None if it is not so written."""
    if text == "-":
        return ()
    if text == "#":
        return ITSELF
    names = tuple(text.split("+"))
    return names if all([is_name(name) for name in names]) else None


def keyset_of(keys, text):
    """The KEYSET with this text."""
    names = names_in_text(text)
    if names is None:
        raise BadKeyset(text)
    return keys.closed(names)
