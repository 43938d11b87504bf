"""Questions that are made from other ones by operators."""

from surershares.masks import added, joined, parts_of


class Mix:
    """What all made Questions have in common."""

    def parts(self, stream):
        """The list of the parts."""
        return parts_of(self.masks(stream), stream)

    def __add__(self, other):
        return Sum(self, other)

    def __sub__(self, other):
        return Sum(self, Multiple(other, -1))

    def __neg__(self):
        return Multiple(self, -1)

    def __mul__(self, other):
        return product_of(self, other)


class Multiple(Mix):
    """A Question so many times."""

    def __init__(self, one, many):
        self._one = one
        self._many = many

    def fits(self, keys):
        """Whether no Question in this one was made with other Keys."""
        return self._one.fits(keys)

    def value(self, stream):
        """The value at the STREAM."""
        return self._one.value(stream) * self._many

    def masks(self, stream):
        """The parts by masks."""
        return {mask: worth * self._many for mask, worth in self._one.masks(stream).items()}


class Both(Mix):
    """What is made from two Questions."""

    def __init__(self, one, other):
        self._one = one
        self._other = other

    def fits(self, keys):
        """Whether no Question in this one was made with other Keys."""
        return self._one.fits(keys) and self._other.fits(keys)


class Sum(Both):
    """The sum of two Questions."""

    def value(self, stream):
        """The value at the STREAM."""
        return self._one.value(stream) + self._other.value(stream)

    def masks(self, stream):
        """The parts by masks."""
        return added(self._one.masks(stream), self._other.masks(stream))


class Product(Both):
    """The product of two Questions."""

    def value(self, stream):
        """The value at the STREAM."""
        return self._one.value(stream) * self._other.value(stream)

    def masks(self, stream):
        """The parts by masks: two sets are both there exactly if both together are."""
        return joined(self._one.masks(stream), self._other.masks(stream))


def product_of(one, other):
    """A Question times another one, or a whole number."""
    return Multiple(one, other) if isinstance(other, int) else Product(one, other)
