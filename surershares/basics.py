"""What several files of the package need: copies, FRACTIONs, and the words of texts."""

from math import gcd

NOUGHT = (0, 1)
ONE = (1, 1)
LETTERS = "abcdefghijklmnopqrstuvwxyz"
DIGITS = "0123456789"


def frozen(value):
    """The value with a tuple in the place of each list, at any depth."""
    if isinstance(value, (list, tuple)):
        return tuple([frozen(item) for item in value])
    return value


def lowest(n, d):
    """The FRACTION n / d, for d above nought."""
    shared = gcd(n, d)
    return (n // shared, d // shared)


def times(one, other):
    """The product of two FRACTIONs."""
    return lowest(one[0] * other[0], one[1] * other[1])


def plus(one, other):
    """The sum of two FRACTIONs."""
    return lowest(one[0] * other[1] + other[0] * one[1], one[1] * other[1])


def minus(one, other):
    """The difference of two FRACTIONs."""
    return lowest(one[0] * other[1] - other[0] * one[1], one[1] * other[1])


def inverse(fraction):
    """One divided by a FRACTION above nought."""
    n, d = fraction
    return (d, n)


def over(one, other):
    """The one FRACTION divided by the other, which is above nought."""
    return times(one, inverse(other))


def total(fractions):
    """The sum of some FRACTIONs."""
    found = NOUGHT
    for fraction in fractions:
        found = plus(found, fraction)
    return found


def multiplied(fractions):
    """The product of some FRACTIONs."""
    found = ONE
    for fraction in fractions:
        found = times(found, fraction)
    return found


def power(base, many):
    """The product of so many numbers base."""
    found = 1
    for _ in range(many):
        found = found * base
    return found


def repeated(fraction, many):
    """The product of so many FRACTIONs like this one."""
    n, d = fraction
    return (power(n, many), power(d, many))


def least_above(fraction):
    """The least number from 1 on that is above a FRACTION."""
    n, d = fraction
    return max(1, n // d + 1)


def at_most(one, other):
    """Whether the one FRACTION is not above the other."""
    return one[0] * other[1] <= other[0] * one[1]


def less(one, other):
    """Whether the one FRACTION is below the other."""
    return not at_most(other, one)


def lesser(one, other):
    """The lesser one of two FRACTIONs."""
    return one if at_most(one, other) else other


def greater(one, other):
    """The greater one of two FRACTIONs."""
    return other if at_most(one, other) else one


def is_number(thing):
    """Whether thing is a number; True and False are none."""
    return isinstance(thing, int) and not isinstance(thing, bool)


def first_doubled(numbers):
    """The first one of the numbers that an earlier one is equal to; None if there is none."""
    met = {}
    for number in numbers:
        if number in met:
            return number
        met[number] = True
    return None


def is_share(pair):
    """Whether a pair of numbers is a SHARE."""
    n, d = pair
    return 0 < n <= d and gcd(n, d) == 1


def share_text(share):
    """The text of a SHARE."""
    n, d = share
    return f"{n}/{d}" if d > 1 else f"{n}"


def share_in(text):
    """The SHARE with just this text; None if there is none."""
    top, _, bottom = text.partition("/")
    if not is_digits(top) or not is_digits(bottom or "1"):
        return None
    share = (int(top), int(bottom or "1"))
    # Only the comparison with what would be written refuses "01/2", "1/1" and "1/".
    return share if is_share(share) and share_text(share) == text else None


def is_digits(text):
    """Whether text is one digit or more, 0 to 9 alone."""
    return text != "" and all([sign in DIGITS for sign in text])


def is_salt(text):
    """Whether text is a SALT."""
    return len(text) <= 8 and all([letter in LETTERS for letter in text])


def is_name(text):
    """Whether text is a NAME."""
    return text != "" and is_salt(text)


def words_of(text):
    """The words of a text; spaces alone part them, so no other white space does."""
    return [word for word in text.split(" ") if word != ""]
