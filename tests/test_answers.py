"""[8] Questions and their answers."""

import itertools
import unittest
from fractions import Fraction

from surershares.answers import (
    Crowds, Lots, Pairs, Total, Unlike, Worths, answer, kept_mean, question_of, spread, weight,
)
from surershares.errors import BadText, Doubled, MixedKeys, NoName
from surershares.keys import Keys, keyset_text
from surershares.samplers import Pipeline
from surershares.streams import chance, chances
from test_keys import CHAIN, EACH, SHOPS, raised
from test_streams import BARE, DAY, STREAM, pair

TEXTS = ("", "- 1/3", "# 1/2", "user 1/2; # 2/3", "user 1/2; user 2/3 x; shop 3/4", "- 1/2; city 1/2; user+city 1/7",
         "city 5/7; user 1/2 a; user 1/2", "city+user 1/4 b; city+user 1/4 c; - 1 c")
PIPELINES = [Pipeline.of(SHOPS, text) for text in TEXTS]
STREAMS = ((), STREAM[:1], STREAM, ((3, (1, 1, 5)), (2, (1, 1, 5)), (0, (1, 2, 5)), (7, (1, 1, 6))))
TABLE = ((0, 3), (4, -2), (2, 0), (8, 100), (3, 10 ** 60))
LOTS = (((), 5), ((0, 4), 3), ((0, 4), -1), ((2,), -7), ((2, 8), 100), ((), 1), ((0, 3, 7), 2), ((0, 2, 4, 9), 11))


def basic_questions():
    for keyset in SHOPS.keysets:
        yield from (Unlike(SHOPS, keyset), Pairs(SHOPS, keyset))
        yield from (Crowds(SHOPS, keyset, least) for least in (1, 2, 3, 9))
    yield from (Total(SHOPS, name) for name in SHOPS.names)
    yield from (Worths(TABLE), Worths(()), Lots(LOTS), Lots(()))


def mixed_questions():
    total, users, cities, worths = Total(SHOPS, "shop"), Unlike(SHOPS, ("user",)), Unlike(SHOPS, ("city",)), Worths(TABLE)
    pairs, crowds, lots = Pairs(SHOPS, ("user",)), Crowds(SHOPS, ("city",), 2), Lots(LOTS)
    yield from (total + users, users - cities, -pairs, users * cities, lots * lots, worths * 3, pairs * 0, crowds * -2)
    yield from ((total - worths) * (users + lots * 2) - crowds, -(-lots * users), total * total, pairs * pairs - total * 4)


def all_questions():
    yield from basic_questions()
    yield from mixed_questions()


def parts_of(stream):
    """All STREAMs of records of this one, in its order."""
    for many in range(len(stream) + 1):
        yield from itertools.combinations(stream, many)


def numbers_of(stream):
    return tuple(sorted(number for number, _ in stream))


def parts_by_values(question, stream):
    """The parts, as the document tells them: alternating sums of the values at all sets within."""
    found = []
    for records in parts_of(stream):
        worth = sum((-1) ** (len(records) - len(each)) * question.value(each) for each in parts_of(records))
        if worth != 0:
            found.append((numbers_of(records), worth))
    return sorted(found, key=lambda row: (len(row[0]), row[0]))


def all_kept(pipeline, stream):
    """The pairs of each STREAM that can be kept and its chance."""
    for kept, each in chances(pipeline, stream):
        yield tuple(record for record in stream if record[0] in kept), Fraction(*each)


class Values(unittest.TestCase):
    def test_total(self):
        self.assertEqual([Total(SHOPS, name).value(STREAM) for name in SHOPS.names], [6, 8, 21])
        self.assertEqual(Total(DAY, "day").value(((0, (-10 ** 60,)), (1, (1,)))), 1 - 10 ** 60)
        self.assertEqual(Total(DAY, "day").value(()), 0)

    def test_worths(self):
        self.assertEqual((Worths(TABLE).value(STREAM), Worths(TABLE).value(()), Worths([]).value(STREAM)), (1, 0, 0))
        self.assertEqual(Worths([[0, -1], [9, -2]]).value(STREAM), -3)

    def test_unlike(self):
        found = [Unlike(SHOPS, keyset).value(STREAM) for keyset in SHOPS.keysets]
        self.assertEqual(found, [1, 2, 2, 3, 3, 4, 4])
        self.assertEqual([Unlike(SHOPS, keyset).value(()) for keyset in SHOPS.keysets], [0] * 7)
        self.assertEqual(Unlike(SHOPS, ("shop",)).value(STREAM), 3)

    def test_pairs(self):
        self.assertEqual([Pairs(SHOPS, keyset).value(STREAM) for keyset in SHOPS.keysets], [6, 3, 3, 1, 1, 0, 0])
        self.assertEqual([Pairs(SHOPS, keyset).value(STREAM[:1]) for keyset in SHOPS.keysets], [0] * 7)

    def test_crowds(self):
        self.assertEqual([Crowds(SHOPS, ("city",), least).value(STREAM) for least in (1, 2, 3, 4, 10 ** 60)], [2, 1, 1, 0, 0])
        self.assertEqual([Crowds(SHOPS, EACH, least).value(STREAM) for least in (1, 2)], [4, 0])
        self.assertEqual([Crowds(SHOPS, (), least).value(STREAM) for least in (1, 4, 5)], [1, 1, 0])
        self.assertEqual(Crowds(SHOPS, (), 1).value(()), 0)

    def test_lots(self):
        self.assertEqual((Lots(LOTS).value(()), Lots(LOTS).value(STREAM)), (6, 6 + 2 - 7 + 11))
        self.assertEqual(Lots((((), 1), ((), 1))).value(()), 2)
        self.assertEqual(Lots([[[0, 4], 1], [[4, 9], 1], [[0, 5], 1]]).value(STREAM), 2)

    def test_bare_keys(self):
        stream = ((5, ()), (3, ()))
        found = [question.value(stream) for question in (Unlike(BARE, ()), Unlike(BARE, EACH), Pairs(BARE, ()), Pairs(BARE, EACH))]
        self.assertEqual(found, [1, 2, 1, 0])

    def test_long_streams(self):
        stream = tuple((number, (number % 5, number % 10, number % 3)) for number in range(1000))
        self.assertEqual([Unlike(SHOPS, keyset).value(stream) for keyset in SHOPS.keysets], [1, 5, 3, 10, 15, 30, 1000])
        self.assertEqual(Pairs(SHOPS, ("city",)).value(stream), 5 * 200 * 199 // 2)
        self.assertEqual(Crowds(SHOPS, ("user",), 334).value(stream), 1)

    def test_operators(self):
        kinds = [Total(SHOPS, "user"), Worths(TABLE), Unlike(SHOPS, ("user",)), Pairs(SHOPS, ("city",)), Crowds(SHOPS, (), 2), Lots(LOTS),
                 Worths(TABLE) + Lots(LOTS), Pairs(SHOPS, ()) * Lots(LOTS), Total(SHOPS, "city") * -2]
        for one, other in itertools.product(kinds, repeat=2):
            for stream in STREAMS:
                a, b = one.value(stream), other.value(stream)
                found = [each.value(stream) for each in (one + other, one - other, -one, one * other, one * -3, one * 0)]
                self.assertEqual(found, [a + b, a - b, -a, a * b, a * -3, 0])

    def test_operators_do_not_look_at_keys(self):
        bare = Keys(SHOPS.names)
        one, other = Unlike(SHOPS, ("user",)), Unlike(bare, ("shop",))
        self.assertEqual([each.value(STREAM) for each in (one + other, one - other, one * other)], [5, -1, 6])

    def test_operators_change_nothing(self):
        one, other = Unlike(SHOPS, ("user",)), Worths(TABLE)
        before = (one.parts(STREAM), other.parts(STREAM))
        (one + other, one - other, -one, one * other, one * 5)
        self.assertEqual((one.parts(STREAM), other.parts(STREAM)), before)

    def test_wrong_names(self):
        self.assertEqual(raised(self, NoName, Total, SHOPS, "x"), {"name": "x"})
        self.assertEqual(raised(self, NoName, Total, SHOPS, "#"), {"name": "#"})
        for kind in (Unlike, Pairs):
            self.assertEqual(raised(self, NoName, kind, SHOPS, ("#", "user", "y", "x")), {"name": "y"})
        self.assertEqual(raised(self, NoName, Crowds, SHOPS, ("y", "x"), 2), {"name": "y"})

    def test_doubled(self):
        self.assertEqual(raised(self, Doubled, Worths, [(1, 1), (2, 1), (3, 1), (2, 2), (1, 1)]), {"number": 2})
        self.assertEqual(raised(self, Doubled, Worths, [[0, 0], [0, 0]]), {"number": 0})

    def test_tables_are_copied(self):
        worths, lots = [[0, 5]], [[[0, 4], 1]]
        one, other = Worths(worths), Lots(lots)
        worths[0][1] = 6
        worths.append([4, 1])
        lots[0][0].append(5)
        lots.append([[], 1])
        self.assertEqual((one.value(STREAM), other.value(STREAM)), (5, 1))


class Parts(unittest.TestCase):
    def test_by_the_values(self):
        for question in all_questions():
            for stream in STREAMS:
                self.assertEqual(question.parts(stream), parts_by_values(question, stream))

    def test_they_add_up(self):
        for question in all_questions():
            found = question.parts(STREAM)
            for records in parts_of(STREAM):
                inside = [worth for numbers, worth in found if set(numbers) <= set(numbers_of(records))]
                self.assertEqual(sum(inside), question.value(records))

    def test_order(self):
        found = [numbers for numbers, _ in Crowds(SHOPS, (), 1).parts(((10, (1, 1, 1)), (9, (1, 1, 1)), (2, (1, 1, 1))))]
        self.assertEqual(found, [(2,), (9,), (10,), (2, 9), (2, 10), (9, 10), (2, 9, 10)])
        self.assertEqual(Lots(LOTS).parts(STREAM), [((), 6), ((2,), -7), ((0, 4), 2), ((0, 2, 4, 9), 11)])
        self.assertEqual(Lots((((0,), 1), ((0,), -1))).parts(STREAM), [])
        self.assertEqual((Total(DAY, "day").parts(((1, (0,)), (0, (7,)))), Worths(TABLE).parts(())), ([((0,), 7)], []))

    def test_each_question_is_one_by_its_parts(self):
        for question in all_questions():
            lots = Lots(question.parts(STREAM))
            for records in parts_of(STREAM):
                self.assertEqual(lots.value(records), question.value(records))

    def test_eight_records(self):
        stream = tuple((number, (number % 2, number % 4, number % 3)) for number in range(8))
        for question in (Unlike(SHOPS, ()), Crowds(SHOPS, (), 5), Crowds(SHOPS, ("city",), 2),
                         Unlike(SHOPS, ("city",)) * Unlike(SHOPS, ("user",)) - Pairs(SHOPS, ())):
            self.assertEqual(question.parts(stream), parts_by_values(question, stream))
        self.assertEqual(len(Unlike(SHOPS, ()).parts(stream)), 255)

    def test_is_a_new_list(self):
        question = Unlike(SHOPS, ("user",))
        question.parts(STREAM).clear()
        self.assertEqual(len(question.parts(STREAM)), 8)


class Texts(unittest.TestCase):
    def test_text(self):
        self.assertEqual([Total(SHOPS, "city").text, Unlike(SHOPS, ("user", "shop")).text, Unlike(SHOPS, ()).text,
                          Pairs(SHOPS, ("#", "user")).text, Crowds(SHOPS, ("city",), 12).text],
                         ["total city", "unlike city+shop+user", "unlike -", "pairs #", "crowds city 12"])

    def test_these_alone_have_one(self):
        for question in (Worths(TABLE), Lots(LOTS), Unlike(SHOPS, ()) + Unlike(SHOPS, ()), -Total(SHOPS, "city")):
            self.assertFalse(hasattr(question, "text"))

    def test_question_of(self):
        for keys in (SHOPS, CHAIN, BARE):
            texts = [f"total {name}" for name in keys.names]
            for keyset in keys.keysets:
                written = keyset_text(keyset)
                texts += [f"unlike {written}", f"pairs {written}", f"crowds {written} 1", f"crowds {written} {10 ** 60}"]
            for text in texts:
                self.assertEqual(question_of(keys, text).text, text)
        kinds = [type(question_of(SHOPS, text)) for text in ("total user", "unlike user", "pairs #", "crowds - 2")]
        self.assertEqual(kinds, [Total, Unlike, Pairs, Crowds])
        for text in ("total user", "unlike city+shop", "pairs user", "crowds city 3", "crowds user 2"):
            word, names = text.split()[:2]
            names = tuple(names.split("+"))
            wanted = {"total": lambda: Total(SHOPS, names[0]), "unlike": lambda: Unlike(SHOPS, names),
                      "pairs": lambda: Pairs(SHOPS, names), "crowds": lambda: Crowds(SHOPS, names, int(text[-1]))}[word]()
            self.assertEqual(question_of(SHOPS, text).parts(STREAM), wanted.parts(STREAM))

    def test_bad_text(self):
        bad = ("", " ", "total", "total ", "total x", "total #", "total -", "total city+shop", "total  user", " total user",
               "total user ", "Total user", "unlike", "unlike shop", "unlike shop+city", "unlike city+city", "unlike x", "unlike user ",
               "unlike user 1", "unlike ", "unlike #+user", "unlike -+user", "pairs", "pairs city shop", "pairs user\n", "pairs  -",
               "crowds", "crowds user", "crowds user ", "crowds user 0", "crowds user 01", "crowds user -1", "crowds user +1",
               "crowds user 1 ", "crowds user  1", "crowds user 1.0", "crowds 2", "crowds x 2", "crowds shop 2", "crowds user 1 1",
               "crowds user \u0661", "crowds user \u00b2", "crowds user 1_0", "worths", "lots", "unlike\tuser", "sum user", "user",
               "crowds user 00", "total user 1", "pairs user 2", "unlike user\x00")
        for text in bad:
            with self.subTest(text=text):
                self.assertEqual(raised(self, BadText, question_of, SHOPS, text), {})


class Answers(unittest.TestCase):
    def test_answer_by_the_parts(self):
        for question, pipeline in itertools.product(all_questions(), PIPELINES):
            wanted = Fraction(0)
            for numbers, worth in question.parts(STREAM):
                records = [record for record in STREAM if record[0] in numbers]
                wanted += worth / Fraction(*chance(pipeline, records))
            self.assertEqual(answer(question, pipeline, STREAM), pair(wanted))

    def test_over_all_that_can_be_kept(self):
        # Guarantee (c): the answer is right on the average, and its spread is told exactly.
        for question, pipeline, stream in itertools.product(all_questions(), PIPELINES, STREAMS):
            first = second = plain = Fraction(0)
            for kept, each in all_kept(pipeline, stream):
                told = Fraction(*answer(question, pipeline, kept))
                first, second, plain = first + each * told, second + each * told * told, plain + each * question.value(kept)
            value = question.value(stream)
            self.assertEqual(first, value)
            self.assertEqual(spread(question, pipeline, stream), pair(second - value * value))
            self.assertEqual(kept_mean(question, pipeline, stream), pair(plain))

    def test_no_other_rule(self):
        # What is answered at each set of records that can be kept follows from the smaller ones.
        question, pipeline = Unlike(SHOPS, ("user",)), Pipeline.of(SHOPS, "user 1/2; # 2/3")
        known = {}
        for records in parts_of(STREAM):
            found = {numbers_of(kept): each for kept, each in all_kept(pipeline, records)}
            rest = question.value(records) - sum(each * known[kept] for kept, each in found.items() if len(kept) < len(records))
            known[numbers_of(records)] = rest / found[numbers_of(records)]
            self.assertEqual(answer(question, pipeline, records), pair(known[numbers_of(records)]))

    def test_nothing_kept(self):
        for pipeline in PIPELINES:
            self.assertEqual(answer(Unlike(SHOPS, ()), pipeline, ()), (0, 1))
            self.assertEqual(answer(Lots(LOTS), pipeline, ()), (6, 1))
            self.assertEqual((spread(Lots(LOTS), pipeline, ()), kept_mean(Lots(LOTS), pipeline, ())), ((0, 1), (6, 1)))

    def test_below_nought(self):
        self.assertEqual(answer(Worths(((0, -1),)), Pipeline.of(SHOPS, "user 2/3"), STREAM), (-3, 2))
        self.assertEqual(kept_mean(Worths(((0, -1),)), Pipeline.of(SHOPS, "user 2/3"), STREAM), (-2, 3))

    def test_eight_records_and_any_number_of_coins(self):
        stream = tuple((number, (number % 2, number % 4, number)) for number in range(8))
        pipeline = Pipeline.of(SHOPS, "; ".join(f"user 1/2 {salt}" for salt in "abcdefghijk") + "; - 1/3")
        question = Unlike(SHOPS, ("city",)) * Unlike(SHOPS, ("shop",)) + Crowds(SHOPS, (), 3) - Lots((((), 1), ((0, 7), 2)))
        plain = pipeline.plain
        self.assertEqual(plain.text, "- 1/3; user 1/2048")
        self.assertEqual(spread(question, pipeline, stream), spread(question, plain, stream))
        # All 512 ways the coins of the plain Pipeline can fall.
        first = second = Fraction(0)
        for switch, users in itertools.product((0, 1), itertools.product((0, 1), repeat=8)):
            each = (Fraction(1, 3) if switch else Fraction(2, 3)) * Fraction(2047, 2048) ** (8 - sum(users)) / 2048 ** sum(users)
            kept = tuple(record for record, keeps in zip(stream, users) if keeps and switch)
            told = Fraction(*answer(question, pipeline, kept))
            first, second = first + each * told, second + each * told * told
        self.assertEqual(first, question.value(stream))
        self.assertEqual(spread(question, pipeline, stream), pair(second - first * first))

    def test_twenty_four_records(self):
        stream = tuple((number, (number % 2, number % 4, number % 3)) for number in range(24))
        pipeline = Pipeline.of(SHOPS, "user 1/2; # 2/3; city+shop 1/5")
        worths = Worths([(number, number * number - 50) for number in range(24)])
        question = worths * 3 - Total(SHOPS, "user")
        wanted = -Fraction(question.value(stream)) ** 2
        for one, other in itertools.product(stream, repeat=2):
            each = question.value((one,)) * question.value((other,))
            records = (one,) if one == other else (one, other)
            wanted += each * Fraction(*chance(pipeline, records)) / Fraction(*pipeline.together(EACH)) ** 2
        self.assertEqual(spread(question, pipeline, stream), pair(wanted))
        pairs = Pairs(SHOPS, ("user",))
        self.assertEqual(kept_mean(pairs, pipeline, stream), pair(sum(
            Fraction(*chance(pipeline, records)) for records in itertools.combinations(stream, 2) if pairs.value(records))))
        both = spread(pairs + question, pipeline, stream), spread(pairs - question, pipeline, stream)
        twice = [2 * Fraction(*spread(each, pipeline, stream)) for each in (pairs, question)]
        self.assertEqual(sum(Fraction(*each) for each in both), sum(twice))

    def test_less_is_surer_for_all_questions(self):
        for one, other in itertools.product(PIPELINES, repeat=2):
            if other <= one:
                for question in all_questions():
                    spreads = [Fraction(*spread(question, pipeline, STREAM)) for pipeline in (one, other)]
                    self.assertLessEqual(*spreads)

    def test_mixed_keys(self):
        bare = Pipeline.of(Keys(SHOPS.names), "user 1/2")
        users = Unlike(SHOPS, ("user",))
        mixed = (users, Total(SHOPS, "city"), Pairs(SHOPS, ()), Crowds(SHOPS, (), 2), -users, users * 2, users * 0, users + Worths(()),
                 Lots(()) - users, Worths(()) * users, (Lots(()) + Worths(())) * -(users + users))
        for call, question in itertools.product((answer, spread, kept_mean), mixed):
            self.assertEqual(raised(self, MixedKeys, call, question, bare, STREAM), {})
        for question in mixed[:4]:
            self.assertEqual(raised(self, MixedKeys, weight, bare, question), {})
        fine = Unlike(Keys.of(SHOPS.text), ("user",)) + Worths(()) * Lots(())
        self.assertEqual(answer(fine, Pipeline.of(SHOPS, "user 1/2"), STREAM), (4, 1))
        self.assertEqual(answer(Worths(((4, 1),)) + Lots(()), bare, STREAM), (2, 1))


class Weights(unittest.TestCase):
    def streams(self, keys):
        """All STREAMs of up to four records with the values 0 and 1."""
        rows = [values for values in itertools.product((0, 1), repeat=len(keys))]
        for many in range(5):
            for picked in itertools.combinations_with_replacement(rows, many):
                stream = tuple(enumerate(picked))
                if all(self.lawful(keys, one, other) for one, other in itertools.combinations(picked, 2)):
                    yield stream

    def lawful(self, keys, one, other):
        same = {name for name, a, b in zip(keys.names, one, other) if a == b}
        return all(other in same for teller, other in keys.pairs if teller in same)

    def ratios(self, question, pipeline, streams):
        """The numbers w that fit some STREAM; two at least if none fits one."""
        found = set()
        for stream in streams:
            value, told = question.value(stream), Fraction(*answer(question, pipeline, stream))
            if value != 0:
                found.add(told / value)
            elif told != 0:
                found |= {None, 0}
        return found

    def test_by_all_small_streams(self):
        keys = Keys(("shop", "user"), (("user", "shop"),))
        streams = list(self.streams(keys))
        questions = [Total(keys, "shop"), Total(keys, "user")]
        for keyset in keys.keysets:
            questions += [Unlike(keys, keyset), Pairs(keys, keyset)] + [Crowds(keys, keyset, least) for least in (1, 2, 3)]
        for text in ("", "- 1/2", "# 1/2", "user 1/2", "shop 1/3; - 1/2", "user 1/2; # 1/3", "shop 1/2; # 1/3 a", "- 1/2; # 1/5", "user 1"):
            pipeline = Pipeline.of(keys, text)
            for question in questions:
                found, told = self.ratios(question, pipeline, streams), weight(pipeline, question)
                with self.subTest(question=question.text, pipeline=text):
                    if told is None:
                        self.assertGreater(len(found), 1)
                    elif len(found) > 0:
                        self.assertEqual({Fraction(*told)}, found)
                    else:
                        self.assertEqual(told, (1, 1))

    def test_total(self):
        for pipeline in PIPELINES:
            n, d = pipeline.together(EACH)
            self.assertEqual(weight(pipeline, Total(SHOPS, "user")), (d, n))

    def test_unlike_and_crowds(self):
        pipeline = Pipeline.of(SHOPS, "city 1/2; user 1/3; user 1/5 a; shop 1")
        for least in (1, 2):
            found = [weight(pipeline, Crowds(SHOPS, keyset, least)) for keyset in SHOPS.keysets]
            self.assertEqual(found, [None, None, None, None, (30, 1), (30, 1), (30, 1) if least == 1 else (1, 1)])
        self.assertEqual([weight(pipeline, Unlike(SHOPS, keyset)) for keyset in SHOPS.keysets], [None] * 4 + [(30, 1)] * 3)

    def test_pairs(self):
        pipeline = Pipeline.of(SHOPS, "city 1/2; # 2/3")
        found = [weight(pipeline, Pairs(SHOPS, keyset)) for keyset in SHOPS.keysets]
        self.assertEqual(found, [None, (9, 2), None, (9, 2), (9, 2), (9, 2), (1, 1)])
        self.assertEqual(weight(Pipeline.of(SHOPS, "user 1/2"), Pairs(SHOPS, EACH)), (1, 1))

    def test_without_samplers(self):
        for question in (Total(SHOPS, "user"), Unlike(SHOPS, ()), Pairs(SHOPS, ()), Crowds(SHOPS, EACH, 4)):
            self.assertEqual(weight(Pipeline(SHOPS), question), (1, 1))


if __name__ == "__main__":
    unittest.main()
