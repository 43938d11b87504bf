"""Averages and spreads over what is kept, of Questions that are told by their parts: dicts of masks and worths."""

from math import lcm

from surershares.basics import inverse, lowest, minus, times, total
from surershares.masks import is_single, joined, places_in
from surershares.streams import chance_at, class_places, value_rows


def known_chances(parts, pipeline, stream):
    """For each mask of the parts the chance that all its records are kept."""
    rows = value_rows(pipeline, stream)
    return {mask: chance_at(rows, places_in(mask)) for mask in parts}


def answer_by_parts(parts, pipeline, stream):
    """The sum of the worths, each divided by the chance that its records are kept."""
    known = known_chances(parts, pipeline, stream)
    return total([times((worth, 1), inverse(known[mask])) for mask, worth in parts.items()])


def mean_by_parts(parts, pipeline, stream):
    """The sum of the worths, each times the chance that its records are kept."""
    known = known_chances(parts, pipeline, stream)
    return total([times((worth, 1), known[mask]) for mask, worth in parts.items()])


def spread_by_parts(parts, pipeline, stream):
    """The average square of the answer, less the square of the value."""
    # Sums over single records need no look at pairs of them: their STREAMs may be long.
    if all([is_single(mask) for mask in parts]):
        return spread_of_singles(parts, pipeline, stream)
    known = known_chances(parts, pipeline, stream)
    bottom = 1
    for n, _ in known.values():
        bottom = lcm(bottom, n)
    # Whole numbers over one denominator: as many FRACTIONs as pairs of parts would take long.
    weights = {mask: worth * known[mask][1] * (bottom // known[mask][0]) for mask, worth in parts.items()}
    n, d = mean_by_parts(joined(weights, weights), pipeline, stream)
    value = sum(list(parts.values()))
    return minus(lowest(n, d * bottom * bottom), (value * value, 1))


def spread_of_singles(parts, pipeline, stream):
    """The spread of a sum over single records; what stands for no record at all does not spread."""
    keys = pipeline.schema
    worths = [parts.get(1 << place, 0) for place in range(len(stream))]
    squared = []
    for keyset in keys.keysets:
        sums = [sum([worths[place] for place in places]) for places in class_places(keys, keyset, stream)]
        squared.append(sum([each * each for each in sums]))
    return spread_of_sum(squared, sum(worths), pipeline)


def spread_of_sum(squared, value, pipeline):
    """The spread of a sum with this value, by the squared sums of the classes, added up for each KEYSET in order."""
    rows = [times((each, 1), pipeline.squares(keyset)) for keyset, each in zip(pipeline.schema.keysets, squared)]
    return minus(total(rows), (value * value, 1))
