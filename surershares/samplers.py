"""Samplers, which keep all records that are alike in their KEYSET or none, and Pipelines of them."""

from surershares.basics import ONE, at_most, greater, inverse, is_salt, is_share, lesser, minus
from surershares.basics import share_in, share_text, times, words_of
from surershares.errors import BadSalt, BadSampler, BadShare, MixedKeys, NoPlace
from surershares.keys import below, keyset_text, names_in_text, within


class Sampler:
    """A KEYSET, the share of its values that is kept, and a SALT."""

    def __init__(self, keys, names, rate, *, salt=""):
        self._schema = keys
        self._keyset = keys.closed(names)
        self._rate = tuple(rate)
        self._salt = salt
        if not is_share(self._rate):
            raise BadShare(self._rate)
        if not is_salt(salt):
            raise BadSalt(salt)

    @property
    def schema(self):
        """The Keys."""
        return self._schema

    @property
    def keyset(self):
        """The KEYSET."""
        return self._keyset

    @property
    def rate(self):
        """The share."""
        return self._rate

    @property
    def salt(self):
        """The SALT."""
        return self._salt

    @property
    def text(self):
        """The KEYSET, the share and, if there is one, the SALT."""
        plain = f"{keyset_text(self._keyset)} {share_text(self._rate)}"
        return f"{plain} {self._salt}" if self._salt != "" else plain

    def __eq__(self, other):
        if not isinstance(other, Sampler) or self._schema != other._schema:
            return False
        return self._keyset == other._keyset and self._rate == other._rate and self._salt == other._salt

    def at(self, rate):
        """A Sampler like this one with this share."""
        return Sampler(self._schema, self._keyset, rate, salt=self._salt)

    @staticmethod
    def of(keys, text):
        """The Sampler with this text."""
        names, rate, salt = sampler_parts(text)
        return Sampler(keys, names, rate, salt=salt)


class Pipeline:
    """Some Samplers; a record is kept if each of them keeps it."""

    def __init__(self, keys, samplers=()):
        for sampler in samplers:
            check_keys(keys, sampler.schema)
        self._schema = keys
        self._samplers = tuple(samplers)
        self._shares = shares_of(self._samplers)

    @property
    def schema(self):
        """The Keys."""
        return self._schema

    @property
    def samplers(self):
        """The Samplers, as given."""
        return self._samplers

    @property
    def text(self):
        """The texts of the Samplers."""
        return "; ".join([sampler.text for sampler in self._samplers])

    @property
    def plain(self):
        """The Pipeline with these shares, and at most one Sampler for each KEYSET."""
        return plain_pipeline(self._schema, [self.share(keyset) for keyset in self._schema.keysets])

    def share(self, keyset):
        """The share of the values of this KEYSET that its own Samplers keep."""
        return self._shares.get(tuple(keyset), ONE)

    def together(self, keyset):
        """The product of the shares of all KEYSETs within this one."""
        chance = ONE
        for part, share in self._shares.items():
            if within(part, keyset):
                chance = times(chance, share)
        return chance

    def squares(self, keyset):
        """What this KEYSET adds to the 1 / together of each KEYSET that it is within."""
        added = {}
        # The order of KEYSETs: all that lie within a part have come ahead of it.
        for part in below(self._schema, keyset):
            rest = inverse(self.together(part))
            for earlier in added:
                if within(earlier, part):
                    rest = minus(rest, added[earlier])
            added[part] = rest
        return added[tuple(keyset)]

    def __len__(self):
        return len(self._samplers)

    def __bool__(self):
        return bool(self._samplers)

    def __getitem__(self, k):
        if not 0 <= k < len(self._samplers):
            raise NoPlace(k)
        return self._samplers[k]

    def __iter__(self):
        raise TypeError("a Pipeline can not be gone through")

    def __contains__(self, keyset):
        return self.share(keyset) != ONE

    def __eq__(self, other):
        if not isinstance(other, Pipeline) or self._schema != other._schema:
            return False
        return all([self.share(keyset) == other.share(keyset) for keyset in self._schema.keysets])

    def __le__(self, other):
        check_keys(self._schema, other.schema)
        return all([at_most(self.share(keyset), other.share(keyset)) for keyset in self._schema.keysets])

    def __lt__(self, other):
        return self <= other and self != other

    def __and__(self, other):
        check_keys(self._schema, other.schema)
        shares = [lesser(self.share(keyset), other.share(keyset)) for keyset in self._schema.keysets]
        return plain_pipeline(self._schema, shares)

    def __or__(self, other):
        check_keys(self._schema, other.schema)
        shares = [greater(self.share(keyset), other.share(keyset)) for keyset in self._schema.keysets]
        return plain_pipeline(self._schema, shares)

    def __rshift__(self, other):
        check_keys(self._schema, other.schema)
        return Pipeline(self._schema, (*self._samplers, *other.samplers))

    def salted(self, word):
        """The same Samplers, each SALT with word behind it."""
        return Pipeline(self._schema, [with_salt(sampler, sampler.salt + word) for sampler in self._samplers])

    @staticmethod
    def of(keys, text):
        """The Pipeline with this text."""
        if text.strip(" ") == "":
            return Pipeline(keys)
        # All pieces are read ahead of any look at the names: BadSampler goes ahead of NoName.
        pieces = [sampler_parts(piece) for piece in text.split(";")]
        return Pipeline(keys, [Sampler(keys, names, rate, salt=salt) for names, rate, salt in pieces])


def check_keys(keys, other):
    """Raises MixedKeys if two Keys are not equal."""
    if keys != other:
        raise MixedKeys()


def sampler_parts(text):
    """The names, the share and the SALT in the text of a Sampler."""
    words = words_of(text)
    if len(words) not in (2, 3):
        raise BadSampler(text)
    names = names_in_text(words[0])
    rate = share_in(words[1])
    salt = words[2] if len(words) == 3 else ""
    if names is None or rate is None or not is_salt(salt):
        raise BadSampler(text)
    return (names, rate, salt)


def with_salt(sampler, salt):
    """A Sampler like this one with this SALT."""
    return Sampler(sampler.schema, sampler.keyset, sampler.rate, salt=salt)


def least_rates(samplers):
    """The least share for each pair of a KEYSET and a SALT that the Samplers have."""
    least = {}
    for sampler in samplers:
        place = (sampler.keyset, sampler.salt)
        least[place] = lesser(sampler.rate, least.get(place, ONE))
    return least


def shares_of(samplers):
    """The share of each KEYSET that the Samplers have."""
    shares = {}
    for (keyset, _), rate in least_rates(samplers).items():
        shares[keyset] = times(shares.get(keyset, ONE), rate)
    return shares


def plain_pipeline(keys, shares):
    """The plain Pipeline with these shares, one for each KEYSET of the Keys in their order."""
    samplers = [Sampler(keys, keyset, share) for keyset, share in zip(keys.keysets, shares) if share != ONE]
    return Pipeline(keys, samplers)
