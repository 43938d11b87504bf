"""What is moved from KEYSETs that have something to spare to those that lack it.

All amounts are FRACTIONs that are at least one, and are multiplied where sums are meant: nothing is one.
"""

from surershares.basics import ONE, lesser, over, times


def flow(spare, lack, ways):
    """The pair of what goes on each of the ways, and of all that is reached from what still lacks something.

    spare and lack tell how much each KEYSET has too much or too little, ways are pairs (low, high) of them. If nothing
    is lacking in the end, nothing is reached.
    """
    spare = {low: amount for low, amount in spare.items()}
    lack = {high: amount for high, amount in lack.items()}
    moved = {way: ONE for way in ways}
    for root in list(lack):
        while lack[root] != ONE:
            reached, giver = search(root, spare, moved)
            if giver is None:
                return (moved, list(reached))
            push(trail(reached, giver), spare, lack, moved)
    return (moved, [])


def search(root, spare, moved):
    """From where each KEYSET is reached, going from root against the ways, and the first with something to spare."""
    reached = {root: None}
    # The shortest trails come first: so there are few of them, whatever the amounts are.
    queue = [root]
    while len(queue) > 0:
        here = queue.pop(0)
        if spare.get(here, ONE) != ONE:
            return (reached, here)
        for there in steps(here, moved):
            if there not in reached:
                reached[there] = here
                queue.append(there)
    return (reached, None)


def steps(here, moved):
    """All that can give to a high, or all to which a low has given what it could take back."""
    givers = [low for low, high in moved if high == here]
    return [*givers, *[high for (low, high), amount in moved.items() if low == here and amount != ONE]]


def trail(reached, giver):
    """What is met from the giver to where the search began."""
    met = [giver]
    while reached[met[-1]] is not None:
        met.append(reached[met[-1]])
    return met


def push(met, spare, lack, moved):
    """Moves as much as can be along a trail, which goes on ways and against them by turns."""
    giver, root = met[0], met[-1]
    given = [(met[at], met[at + 1]) for at in range(0, len(met), 2)]
    taken = [(met[at + 1], met[at]) for at in range(1, len(met) - 1, 2)]
    amount = lesser(spare[giver], lack[root])
    for way in taken:
        amount = lesser(amount, moved[way])
    for way in given:
        moved[way] = times(moved[way], amount)
    for way in taken:
        moved[way] = over(moved[way], amount)
    spare[giver] = over(spare[giver], amount)
    lack[root] = over(lack[root], amount)
