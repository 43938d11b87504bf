"""Streams of records, and what a Pipeline keeps of them."""

from surershares.basics import ONE, frozen, first_doubled, is_number, less, minus, multiplied, repeated
from surershares.errors import BadNumbers, Doubled, NoRecord, Unlawful
from surershares.keys import ITSELF
from surershares.masks import places_in
from surershares.samplers import least_rates


def is_record(keys, thing):
    """Whether thing is a RECORD of the Keys."""
    if not isinstance(thing, tuple) or len(thing) != 2:
        return False
    number, values = thing
    if not is_number(number) or number < 0 or not isinstance(values, tuple):
        return False
    return len(values) == len(keys) and all([is_number(value) for value in values])


def is_stream(keys, thing):
    """Whether thing is a STREAM of the Keys."""
    if not isinstance(thing, tuple) or not all([is_record(keys, record) for record in thing]):
        return False
    return first_doubled([number for number, _ in thing]) is None and first_unlawful(keys, thing) is None


def stream_of(keys, records):
    """The STREAM with these RECORDs in this order."""
    stream = frozen(records)
    number = first_doubled([record[0] for record in stream])
    if number is not None:
        raise Doubled(number)
    places = first_unlawful(keys, stream)
    if places is not None:
        first, second = [stream[place] for place in places]
        raise Unlawful(first[0], second[0], broken_name(keys, first, second))
    return stream


def first_unlawful(keys, stream):
    """The place of the first RECORD that is unlawful to an earlier one, behind that of the first such earlier one."""
    tellings = [(keys.names.index(one), keys.names.index(other)) for one, other in keys.pairs]
    firsts = {}
    for place, (_, values) in enumerate(stream):
        found = place
        for one, other in tellings:
            # All earlier RECORDs are lawful to each other: the first with this value stands for all with it.
            earlier = firsts.setdefault((one, values[one]), place)
            if stream[earlier][1][other] != values[other] and earlier < found:
                found = earlier
        if found < place:
            return (found, place)
    return None


def alike_names(keys, one, other):
    """The names in which two RECORDs are alike, in order."""
    return tuple([name for place, name in enumerate(keys.names) if one[1][place] == other[1][place]])


def broken_name(keys, one, other):
    """The first name in which two RECORDs are unlike although one in which they are alike tells it."""
    alike = alike_names(keys, one, other)
    told = [name for teller, name in keys.pairs if teller in alike and name not in alike]
    return [name for name in keys.names if name in told][0]


def agreement(keys, one, other):
    """The KEYSET in which two RECORDs of one STREAM are alike."""
    return ITSELF if one[0] == other[0] else alike_names(keys, one, other)


def values_of(keys, keyset, record):
    """The values of the RECORD in the names of the KEYSET."""
    number, values = record
    if tuple(keyset) == ITSELF:
        return (number,)
    return tuple([values[keys.names.index(name)] for name in keyset])


def class_places(keys, keyset, stream):
    """The places of the RECORDs of each class of the STREAM by the KEYSET."""
    found = {}
    for place, record in enumerate(stream):
        found.setdefault(values_of(keys, keyset, record), []).append(place)
    return list(found.values())


def classes(keys, keyset, stream):
    """The list of the classes of the STREAM by the KEYSET."""
    records = frozen(stream)
    return [tuple([records[place] for place in places]) for places in class_places(keys, keyset, records)]


def tossed(pipeline):
    """The triples (KEYSET, SALT, least share) with a share below one, in the order of the coins."""
    least = least_rates(pipeline.samplers)
    salts = sorted(set([salt for _, salt in least]))
    found = [(keyset, salt, least.get((keyset, salt), ONE)) for keyset in pipeline.schema.keysets for salt in salts]
    return [(keyset, salt, share) for keyset, salt, share in found if share != ONE]


def coins(pipeline, stream):
    """The tuple of the coins of the Pipeline over the STREAM."""
    found = []
    for keyset, salt, _ in tossed(pipeline):
        values = sorted(set([values_of(pipeline.schema, keyset, record) for record in stream]))
        found.extend([(salt, keyset, each) for each in values])
    return tuple(found)


def check_numbers(numbers, many):
    """Raises BadNumbers if these are not so many numbers from 0 to below 1."""
    if len(numbers) != many:
        raise BadNumbers(min(len(numbers), many))
    for place, (n, d) in enumerate(numbers):
        if not 0 <= n < d:
            raise BadNumbers(place)


def kept_by(pipeline, stream, numbers):
    """The STREAM of the RECORDs that are kept with these numbers of the coins."""
    found = coins(pipeline, stream)
    check_numbers(numbers, len(found))
    drawn = dict(zip(found, numbers))
    sides = tossed(pipeline)
    return tuple([record for record in frozen(stream) if is_kept(pipeline.schema, record, sides, drawn)])


def is_kept(keys, record, sides, drawn):
    """Whether all coins of the RECORD keep it, with the numbers that are drawn for them."""
    own = [(drawn[(salt, keyset, values_of(keys, keyset, record))], share) for keyset, salt, share in sides]
    return all([less(number, share) for number, share in own])


def sampled(pipeline):
    """The KEYSETs with a share below one, in order."""
    return [keyset for keyset in pipeline.schema.keysets if keyset in pipeline]


def value_rows(pipeline, stream):
    """For each KEYSET with a share below one: this share, and the values of each RECORD."""
    keys = pipeline.schema
    parts = sampled(pipeline)
    return [(pipeline.share(part), [values_of(keys, part, record) for record in stream]) for part in parts]


def chance_at(rows, places):
    """The chance that all RECORDs at these places are kept, by the value_rows of their STREAM."""
    return multiplied([repeated(share, len(set([values[place] for place in places]))) for share, values in rows])


def chance(pipeline, records):
    """The chance that all these RECORDs are kept."""
    return chance_at(value_rows(pipeline, records), list(range(len(records))))


def all_chances(pipeline, stream):
    """For each number whose bits are places of the STREAM: the chance that just the RECORDs there are kept."""
    rows = value_rows(pipeline, stream)
    found = [chance_at(rows, places_in(mask)) for mask in range(1 << len(stream))]
    for place in range(len(stream)):
        bit = 1 << place
        # What has the bit besides is taken off: what is left of each is the chance without this RECORD.
        found = [minus(each, found[mask | bit]) if (mask & bit) == 0 else each for mask, each in enumerate(found)]
    return found


def chance_of(pipeline, stream, kept):
    """The chance that of the STREAM just the RECORDs with these numbers are kept."""
    bits = {record[0]: 1 << place for place, record in enumerate(stream)}
    for number in kept:
        if number not in bits:
            raise NoRecord(number)
    return all_chances(pipeline, stream)[sum([bits[number] for number in kept])]


def chances(pipeline, stream):
    """The list of the pairs (kept, chance_of) with a chance above 0, ascending by kept."""
    numbers = sorted(set([record[0] for record in stream]))
    places = {record[0]: place for place, record in enumerate(stream)}
    found = {}
    for mask, each in enumerate(all_chances(pipeline, stream)):
        if each[0] > 0:
            found[tuple([number for number in numbers if mask >> places[number] & 1])] = each
    return [(kept, found[kept]) for kept in sorted(set(list(found)))]
