"""Questions about streams, and the answers that what is kept gives to them."""

from surershares.basics import ONE, first_doubled, frozen, inverse, is_digits, times
from surershares.errors import BadText, Doubled, MixedKeys
from surershares.keys import ITSELF, check_names, keyset_text, within
from surershares.masks import crowd_masks, pair_masks, parts_of
from surershares.mixes import Multiple, Sum, product_of
from surershares.spreads import answer_by_parts, mean_by_parts, spread_by_parts
from surershares.streams import class_places, sampled


class Total:
    """The sum of the values of a name."""

    def __init__(self, keys, name):
        check_names(keys.names, (name,))
        self._schema = keys
        self._name = name

    @property
    def text(self):
        """The word total and the name."""
        return f"total {self._name}"

    def fits(self, keys):
        """Whether it was made with these Keys."""
        return self._schema == keys

    def value(self, stream):
        """The value at the STREAM."""
        at = self._schema.names.index(self._name)
        return sum([record[1][at] for record in stream])

    def masks(self, stream):
        """The parts by masks."""
        at = self._schema.names.index(self._name)
        return {1 << place: record[1][at] for place, record in enumerate(stream)}

    def parts(self, stream):
        """The list of the parts."""
        return parts_of(self.masks(stream), stream)

    def weight_by(self, pipeline):
        """The weight of what is kept by the Pipeline."""
        return inverse(pipeline.together(ITSELF))

    def __add__(self, other):
        return Sum(self, other)

    def __sub__(self, other):
        return Sum(self, Multiple(other, -1))

    def __neg__(self):
        return Multiple(self, -1)

    def __mul__(self, other):
        return product_of(self, other)


class Worths:
    """The sum of the worths that a table tells of some records."""

    def __init__(self, table):
        number = first_doubled([pair[0] for pair in table])
        if number is not None:
            raise Doubled(number)
        self._worths = {number: worth for number, worth in table}

    def fits(self, keys):
        """Whether it was made with no other Keys: with none at all."""
        return True

    def value(self, stream):
        """The value at the STREAM."""
        return sum([self._worths.get(record[0], 0) for record in stream])

    def masks(self, stream):
        """The parts by masks."""
        return {1 << place: self._worths.get(record[0], 0) for place, record in enumerate(stream)}

    def parts(self, stream):
        """The list of the parts."""
        return parts_of(self.masks(stream), stream)

    def __add__(self, other):
        return Sum(self, other)

    def __sub__(self, other):
        return Sum(self, Multiple(other, -1))

    def __neg__(self):
        return Multiple(self, -1)

    def __mul__(self, other):
        return product_of(self, other)


class Unlike:
    """How many unlike values of a KEYSET there are."""

    def __init__(self, keys, names):
        self._schema = keys
        self._keyset = keys.closed(names)

    @property
    def text(self):
        """The word unlike and the KEYSET."""
        return f"unlike {keyset_text(self._keyset)}"

    def fits(self, keys):
        """Whether it was made with these Keys."""
        return self._schema == keys

    def value(self, stream):
        """The value at the STREAM."""
        return len(class_places(self._schema, self._keyset, stream))

    def masks(self, stream):
        """The parts by masks."""
        return masks_of_crowds(self._schema, self._keyset, 1, stream)

    def parts(self, stream):
        """The list of the parts."""
        return parts_of(self.masks(stream), stream)

    def weight_by(self, pipeline):
        """The weight of what is kept by the Pipeline; None if there is none."""
        return weight_of_classes(pipeline, self._keyset)

    def __add__(self, other):
        return Sum(self, other)

    def __sub__(self, other):
        return Sum(self, Multiple(other, -1))

    def __neg__(self):
        return Multiple(self, -1)

    def __mul__(self, other):
        return product_of(self, other)


class Pairs:
    """How many pairs of records are alike in a KEYSET."""

    def __init__(self, keys, names):
        self._schema = keys
        self._keyset = keys.closed(names)

    @property
    def text(self):
        """The word pairs and the KEYSET."""
        return f"pairs {keyset_text(self._keyset)}"

    def fits(self, keys):
        """Whether it was made with these Keys."""
        return self._schema == keys

    def value(self, stream):
        """The value at the STREAM."""
        sizes = [len(places) for places in class_places(self._schema, self._keyset, stream)]
        return sum([size * (size - 1) // 2 for size in sizes])

    def masks(self, stream):
        """The parts by masks."""
        found = {}
        for places in class_places(self._schema, self._keyset, stream):
            found.update(pair_masks(places))
        return found

    def parts(self, stream):
        """The list of the parts."""
        return parts_of(self.masks(stream), stream)

    def weight_by(self, pipeline):
        """The weight of what is kept by the Pipeline; None if there is none."""
        if self._keyset == ITSELF:
            return ONE
        if not all([within(part, self._keyset) or part == ITSELF for part in sampled(pipeline)]):
            return None
        single = pipeline.share(ITSELF)
        return inverse(times(pipeline.together(self._keyset), times(single, single)))

    def __add__(self, other):
        return Sum(self, other)

    def __sub__(self, other):
        return Sum(self, Multiple(other, -1))

    def __neg__(self):
        return Multiple(self, -1)

    def __mul__(self, other):
        return product_of(self, other)


class Crowds:
    """How many unlike values of a KEYSET at least so many records have."""

    def __init__(self, keys, names, least):
        self._schema = keys
        self._keyset = keys.closed(names)
        self._least = least

    @property
    def text(self):
        """The word crowds, the KEYSET and the number of records."""
        return f"crowds {keyset_text(self._keyset)} {self._least}"

    def fits(self, keys):
        """Whether it was made with these Keys."""
        return self._schema == keys

    def value(self, stream):
        """The value at the STREAM."""
        found = class_places(self._schema, self._keyset, stream)
        return len([places for places in found if len(places) >= self._least])

    def masks(self, stream):
        """The parts by masks."""
        return masks_of_crowds(self._schema, self._keyset, self._least, stream)

    def parts(self, stream):
        """The list of the parts."""
        return parts_of(self.masks(stream), stream)

    def weight_by(self, pipeline):
        """The weight of what is kept by the Pipeline; None if there is none."""
        # No two records have the same number: so this is 0 whatever is kept.
        if self._keyset == ITSELF and self._least > 1:
            return ONE
        return weight_of_classes(pipeline, self._keyset)

    def __add__(self, other):
        return Sum(self, other)

    def __sub__(self, other):
        return Sum(self, Multiple(other, -1))

    def __neg__(self):
        return Multiple(self, -1)

    def __mul__(self, other):
        return product_of(self, other)


class Lots:
    """The sum of the worths of those sets of records of a table that are there."""

    def __init__(self, table):
        self._rows = tuple([(frozen(numbers), worth) for numbers, worth in table])

    def fits(self, keys):
        """Whether it was made with no other Keys: with none at all."""
        return True

    def value(self, stream):
        """The value at the STREAM."""
        return sum(list(self.masks(stream).values()))

    def masks(self, stream):
        """The parts by masks."""
        bits = {record[0]: 1 << place for place, record in enumerate(stream)}
        found = {}
        for numbers, worth in self._rows:
            if all([number in bits for number in numbers]):
                mask = sum([bits[number] for number in numbers])
                found[mask] = found.get(mask, 0) + worth
        return found

    def parts(self, stream):
        """The list of the parts."""
        return parts_of(self.masks(stream), stream)

    def __add__(self, other):
        return Sum(self, other)

    def __sub__(self, other):
        return Sum(self, Multiple(other, -1))

    def __neg__(self):
        return Multiple(self, -1)

    def __mul__(self, other):
        return product_of(self, other)


def masks_of_crowds(keys, keyset, least, stream):
    """The parts, by masks, of how many classes have at least so many records."""
    found = {}
    for places in class_places(keys, keyset, stream):
        found.update(crowd_masks(places, least))
    return found


def weight_of_classes(pipeline, keyset):
    """The weight of a count of classes by the KEYSET; None if the Pipeline may keep a part of one."""
    if not all([within(part, keyset) for part in sampled(pipeline)]):
        return None
    return inverse(pipeline.together(keyset))


def question_of(keys, text):
    """The Question with just this text."""
    last = text.rpartition(" ")[2]
    least = max(1, int(last)) if is_digits(last) else 1
    for question in written_questions(keys, least):
        if question.text == text:
            return question
    raise BadText()


def written_questions(keys, least):
    """All Questions that have a text, of the Crowds those with this least."""
    found = [Total(keys, name) for name in keys.names]
    for keyset in keys.keysets:
        found.extend([Unlike(keys, keyset), Pairs(keys, keyset), Crowds(keys, keyset, least)])
    return found


def check_question(question, pipeline):
    """Raises MixedKeys if a Question in this one was made with other Keys than the Pipeline."""
    if not question.fits(pipeline.schema):
        raise MixedKeys()


def answer(question, pipeline, kept):
    """What the Question is answered from what was kept, right on the average."""
    check_question(question, pipeline)
    return answer_by_parts(question.masks(kept), pipeline, kept)


def spread(question, pipeline, stream):
    """The average square of the answer over what is kept of the STREAM, less the square of the value."""
    check_question(question, pipeline)
    return spread_by_parts(question.masks(stream), pipeline, stream)


def kept_mean(question, pipeline, stream):
    """The average of the value of what is kept of the STREAM."""
    check_question(question, pipeline)
    return mean_by_parts(question.masks(stream), pipeline, stream)


def weight(pipeline, question):
    """What the value of all that is kept is to be multiplied by to be the answer; None if there is nothing such."""
    check_question(question, pipeline)
    return question.weight_by(pipeline)
