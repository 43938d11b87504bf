"""Tables of the numbers of Pipelines: least ones above, greatest ones below, and moves between KEYSETs."""

from surershares.basics import ONE, frozen, greater, inverse, is_share, less, lesser, multiplied, over, times, total
from surershares.errors import NoPipeline, NotWithin, TooMuch
from surershares.flows import flow
from surershares.keys import below, tops, within
from surershares.samplers import check_keys, plain_pipeline

ORDERS = ("all", "sums", "counts")


def numbers(pipeline, order):
    """The numbers of the Pipeline in this order, for each KEYSET."""
    return tuple([number_at(pipeline, order, keyset) for keyset in pipeline.schema.keysets])


def number_at(pipeline, order, keyset):
    """The number for one KEYSET."""
    if order == "all":
        return pipeline.share(keyset)
    return pipeline.squares(keyset) if order == "sums" else pipeline.together(keyset)


def pipeline_by(keys, order, numbers):
    """The plain Pipeline with these numbers in this order."""
    shares = asked_shares(keys, order, frozen(numbers))
    keyset = first_without(keys, shares)
    if keyset is not None:
        raise NoPipeline(keyset)
    return plain_pipeline(keys, shares)


def asked_shares(keys, order, asked):
    """The shares that these numbers ask for, up to the first that is none."""
    shares = []
    for place, keyset in enumerate(keys.keysets):
        inner = [at for at in range(place) if within(keys.keysets[at], keyset)]
        share = asked_share(order, asked[place], [asked[at] for at in inner], [shares[at] for at in inner])
        if share is None or not is_share(share):
            return shares
        shares.append(share)
    return shares


def asked_share(order, number, others, shares):
    """What a number asks for, by the numbers and the shares of all other KEYSETs within its own; None for nothing."""
    if order == "all":
        return number
    if order == "counts":
        return over(number, multiplied(shares))
    whole = total([number, *others])
    return inverse(times(whole, multiplied(shares))) if whole[0] > 0 else None


def first_without(keys, shares):
    """The first KEYSET for which there is no share; None if there is one for each."""
    return keys.keysets[len(shares)] if len(shares) < len(keys.keysets) else None


def chosen(p, q, order, above):
    """The better ones of both numbers, or the worse ones."""
    check_keys(p.schema, q.schema)
    # For sums the lesser number is the better one.
    upward = above != (order == "sums")
    rows = list(zip(numbers(p, order), numbers(q, order)))
    return [greater(one, other) if upward else lesser(one, other) for one, other in rows]


def least_above(p, q, order):
    """The least Pipeline that is at least as sure as both; None if there is none."""
    return pipeline_or_none(p.schema, order, chosen(p, q, order, True))


def greatest_below(p, q, order):
    """The greatest Pipeline than which both are at least as sure; None if there is none."""
    return pipeline_or_none(p.schema, order, chosen(p, q, order, False))


def pipeline_or_none(keys, order, asked):
    """The plain Pipeline with these numbers; None if there is none."""
    shares = asked_shares(keys, order, asked)
    return plain_pipeline(keys, shares) if first_without(keys, shares) is None else None


def barrier(p, q, order, above):
    """The first KEYSET for which the better, or the worse, numbers ask for no share; None if there is none."""
    return first_without(p.schema, asked_shares(p.schema, order, chosen(p, q, order, above)))


def corners(p, q, order):
    """For each of the tops of the barrier above, the Pipeline that leaves this top out of account."""
    keys = p.schema
    shares = asked_shares(keys, order, chosen(p, q, order, True))
    keyset = first_without(keys, shares)
    if keyset is None:
        return []
    return [corner(keys, shares, keyset, top) for top in tops(keys, keyset)]


def corner(keys, shares, keyset, top):
    """The plain Pipeline with these shares for what is within the KEYSET and lacks this top."""
    known = dict(zip(keys.keysets, shares))
    inner = [part for part in below(keys, keyset) if top not in part]
    return plain_pipeline(keys, [known[part] if part in inner else ONE for part in keys.keysets])


def moved(pipeline, low, high, rate):
    """The plain Pipeline that has this share at the greater KEYSET instead of the lesser one."""
    low, high, rate = frozen((low, high, rate))
    if low == high or not within(low, high):
        raise NotWithin(high)
    if less(rate, pipeline.share(low)):
        raise TooMuch(low)
    keys = pipeline.schema
    shares = {keyset: pipeline.share(keyset) for keyset in keys.keysets}
    shares[low] = over(shares[low], rate)
    shares[high] = times(shares[high], rate)
    return plain_pipeline(keys, list(shares.values()))


def moves(p, q):
    """The moves from q on to what is thinner than p or alike; None if there are none."""
    ways, reached = flow_of(p, q)
    if len(reached) > 0:
        return None
    return [(low, high, inverse(amount)) for (low, high), amount in ways.items() if amount != ONE]


def gap(p, q):
    """KEYSETs within which p thins more than q, so that there are no moves; None if there are some."""
    _, reached = flow_of(p, q)
    if len(reached) == 0:
        return None
    # All that could give to those that are reached is reached, too, and gives to nothing else: it is not enough.
    inner = [keyset for keyset in reached if any([within(keyset, other) and keyset != other for other in reached])]
    return [keyset for keyset in p.schema.keysets if keyset in reached and keyset not in inner]


def flow_of(p, q):
    """What q can give from where it thins more than p to where it thins less."""
    check_keys(p.schema, q.schema)
    factors = [(keyset, over(p.share(keyset), q.share(keyset))) for keyset in p.schema.keysets]
    spare = {keyset: factor for keyset, factor in factors if less(ONE, factor)}
    lack = {keyset: inverse(factor) for keyset, factor in factors if less(factor, ONE)}
    return flow(spare, lack, [(low, high) for low in spare for high in lack if within(low, high)])
