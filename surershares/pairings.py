"""Pairs of records of two sides, two such pairs at a time, by the ways in which their records are alike."""

from surershares.streams import agreement, alike_names


def groups(keys, lefts, rights, rows):
    """For all pairs of rows (at, beside, worth) that are alike in the same ways: places of one, and the worth of all.

    What a Join keeps of a pair of rows hangs on nothing but the ways in which their records are alike: so it need
    not be told anew for each of them.
    """
    ones = [[agreement(keys, one, other) for other in lefts] for one in lefts]
    others = [[agreement(keys, one, other) for other in rights] for one in rights]
    # A RECORD of one side is never one of the other, though their numbers may be the same.
    across = [[alike_names(keys, one, other) for other in rights] for one in lefts]
    found = {}
    worths = {}
    for place, (at, beside, worth) in enumerate(rows):
        for after, behind, by in rows[:place + 1]:
            cross = (across[at][beside], across[after][behind], across[at][behind], across[after][beside])
            ways = (ones[at][after], others[beside][behind], cross)
            found.setdefault(ways, (at, beside, after, behind))
            # A row stands beside itself once, beside each other one twice: ahead of it and behind it.
            times = 1 if (after, behind) == (at, beside) else 2
            worths[ways] = worths.get(ways, 0) + worth * by * times
    return [(places, worths[ways]) for ways, places in found.items()]
