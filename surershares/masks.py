"""Sets of records of a stream as masks: numbers whose bits are the places of the records in the stream."""

from math import comb


def places_in(mask):
    """The places of a mask, ascending."""
    found = []
    while mask > 0:
        lowest_bit = mask & -mask
        found.append(lowest_bit.bit_length() - 1)
        mask = mask - lowest_bit
    return found


def is_single(mask):
    """Whether a mask has one place at most."""
    return (mask & (mask - 1)) == 0


def added(one, other):
    """The dict with the sums of what two dicts have for each mask."""
    found = {mask: worth for mask, worth in one.items()}
    for mask, worth in other.items():
        found[mask] = found.get(mask, 0) + worth
    return found


def joined(one, other):
    """The dict with the product of each worth of one and each of the other, for both masks together."""
    found = {}
    for mask, worth in one.items():
        for behind, by in other.items():
            found[mask | behind] = found.get(mask | behind, 0) + worth * by
    return found


def pair_masks(places):
    """The dict with 1 for each pair of the places."""
    found = {}
    for at, place in enumerate(places):
        for earlier in places[:at]:
            found[1 << earlier | 1 << place] = 1
    return found


def crowd_masks(places, least):
    """The parts of the question whether at least so many of the places are there."""
    if len(places) < least:
        return {}
    parts = [(0, 0)]
    for place in places:
        parts = parts + [(mask | 1 << place, size + 1) for mask, size in parts]
    return {mask: crowd_part(size, least) for mask, size in parts if size >= least}


def crowd_part(size, least):
    """The alternating sum, over all sets within one of this size, of 1 for those of at least so many."""
    return comb(size - 1, least - 1) * (1 if (size - least) & 1 == 0 else -1)


def parts_of(masks, stream):
    """The list of the pairs (numbers, worth) with worth not 0, fewer numbers first, then by comparison."""
    numbers = [record[0] for record in stream]
    found = {}
    for mask, worth in masks.items():
        if worth != 0:
            found[numbers_at(numbers, mask)] = worth
    # Sorting keeps the order of what is equal: as many numbers stay by comparison.
    return [(each, found[each]) for each in sorted(sorted(set(list(found))), key=len)]


def numbers_at(numbers, mask):
    """The set of those of the numbers that stand at the places of a mask."""
    return tuple(sorted(set([numbers[place] for place in places_in(mask)])))
