"""Edits of Pipelines: what they do, what is needless, and how few of them there need to be."""

from surershares.basics import NOUGHT, ONE, at_most, inverse, less, lesser, minus, over, times
from surershares.errors import BadKind, NoPlace
from surershares.masks import places_in
from surershares.samplers import Pipeline, Sampler, check_keys, least_rates, with_salt
from surershares.surer import compare
from surershares.tables import ORDERS, numbers
from surershares.thinner import free_salt


def edited(pipeline, edit):
    """The Pipeline with this change."""
    word, k = edit[0], edit[1]
    if word == "put":
        check_keys(pipeline.schema, edit[2].schema)
    width = 0 if word == "put" else 1
    if not 0 <= k <= len(pipeline) - width:
        raise NoPlace(k)
    samplers = list(pipeline.samplers)
    samplers[k:k + width] = brought(samplers, edit)
    return Pipeline(pipeline.schema, samplers)


def brought(samplers, edit):
    """The Samplers that an edit brings to its place."""
    word, k = edit[0], edit[1]
    if word == "drop":
        return []
    if word == "put":
        return [edit[2]]
    if word == "rate":
        return [samplers[k].at(edit[2])]
    if word == "salt":
        return [with_salt(samplers[k], edit[2])]
    return [Sampler(samplers[k].schema, edit[2], samplers[k].rate, salt=samplers[k].salt)]


def effect(pipeline, edit):
    """How the Pipeline compares to the edited one."""
    return compare(pipeline, edited(pipeline, edit))


def without(pipeline, places):
    """The Pipeline without the Samplers at these places."""
    samplers = [sampler for place, sampler in enumerate(pipeline.samplers) if place not in places]
    return Pipeline(pipeline.schema, samplers)


def needless(pipeline):
    """The places of the Samplers without which the Pipeline is alike."""
    return tuple([place for place in range(len(pipeline)) if without(pipeline, [place]) == pipeline])


def trimmed(pipeline):
    """What is left if each Sampler in order is dropped that is needless then."""
    place = 0
    while place < len(pipeline):
        rest = without(pipeline, [place])
        if rest == pipeline:
            pipeline = rest
        else:
            place = place + 1
    return pipeline


def fewest_edits(pipeline, other):
    """As few EDITs as can be, of the words rate, drop and put, that lead to what is alike to the other Pipeline."""
    check_keys(pipeline.schema, other.schema)
    rates = []
    drops = []
    puts = []
    for keyset in pipeline.schema.keysets:
        wanted = other.share(keyset)
        if less(wanted, pipeline.share(keyset)):
            puts.append(missing(pipeline, keyset, wanted))
        elif less(pipeline.share(keyset), wanted):
            places = fewest_places(pipeline, keyset, wanted)
            if without(pipeline, places).share(keyset) != wanted:
                rates.append(("rate", places[0], rate_for(pipeline, places, wanted)))
                places = places[1:]
            drops.extend(places)
    # Rates move no places, drops from the end none of those that come after them.
    falling = [("drop", place) for place in reversed(range(len(pipeline))) if place in drops]
    start = len(pipeline) - len(drops)
    return [*rates, *falling, *[("put", start + at, sampler) for at, sampler in enumerate(puts)]]


def missing(pipeline, keyset, wanted):
    """A Sampler beside which the KEYSET has the share wanted, which is below the one it has."""
    salt = free_salt([sampler.salt for sampler in pipeline.samplers])
    return Sampler(pipeline.schema, keyset, over(wanted, pipeline.share(keyset)), salt=salt)


def fewest_places(pipeline, keyset, wanted):
    """As few places as can be of Samplers without which the share of their KEYSET is at least the one wanted."""
    own = [place for place, sampler in enumerate(pipeline.samplers) if sampler.keyset == keyset]
    parts = [[own[at] for at in places_in(mask)] for mask in range(1 << len(own))]
    return min([part for part in parts if at_most(wanted, without(pipeline, part).share(keyset))], key=len)


def rate_for(pipeline, places, wanted):
    """The share of the first of these Samplers with which, without the others, their KEYSET has the share wanted."""
    sampler = pipeline.samplers[places[0]]
    rest = without(pipeline, places)
    beside = least_beside(rest.samplers, sampler)
    return times(wanted, over(beside, rest.share(sampler.keyset)))


def least_beside(samplers, sampler):
    """The least share of those of the Samplers that have the same numbers as this one."""
    return least_rates(samplers).get((sampler.keyset, sampler.salt), ONE)


def least_rate(pipeline, k, other, kind):
    """The least share of the Sampler at place k with which the Pipeline is as sure as the other; None if none is."""
    check_keys(pipeline.schema, other.schema)
    sampler = pipeline[k]
    if kind not in ORDERS:
        raise BadKind(kind)
    rest = without(pipeline, [k]).samplers
    apart = [each for each in rest if each.keyset != sampler.keyset or each.salt != sampler.salt]
    rooms = rooms_for(Pipeline(pipeline.schema, apart), sampler, losses(other, kind), kind)
    most = inverse(least_beside(rest, sampler))
    room = rooms[0]
    for each in rooms:
        room = lesser(room, each)
    return inverse(room) if at_most(most, room) else None


def rooms_for(pipeline, sampler, bounds, kind):
    """What 1 / share of this Sampler may be at most beside the Pipeline, so that it loses no more than the bounds."""
    # Each loss is a + b / share with b from nought on: shares of one and of one half tell a and b.
    half = Pipeline(pipeline.schema, [*pipeline.samplers, sampler.at((1, 2))])
    rooms = []
    for single, double, bound in zip(losses(pipeline, kind), losses(half, kind), bounds):
        grown = minus(double, single)
        spare = minus(bound, minus(single, grown))
        if grown != NOUGHT:
            rooms.append(over(spare, grown))
        elif spare[0] < 0:
            # No share helps where it makes no difference.
            rooms.append(NOUGHT)
    return rooms


def losses(pipeline, kind):
    """For each KEYSET the number that must not be above that of another Pipeline, to be as sure."""
    return [each if kind == "sums" else inverse(each) for each in numbers(pipeline, kind)]
