"""[6] Streams and what is kept of them."""

import itertools
import unittest
from fractions import Fraction

from surershares.errors import BadNumbers, Doubled, NoRecord, Unlawful
from surershares.keys import Keys
from surershares.samplers import Pipeline
from surershares.streams import (
    agreement, chance, chance_of, chances, classes, coins, is_stream, kept_by, stream_of, values_of,
)
from test_keys import CHAIN, EACH, SHOPS, raised

BARE = Keys(())
DAY = Keys(("day",))
# In SHOPS the values are those of city, shop and user; a shop tells its city.
STREAM = ((4, (1, 1, 5)), (0, (1, 1, 6)), (9, (1, 2, 5)), (2, (3, 4, 5)))
TEXTS = ("", "- 1/3", "# 1/2", "user 1/2; # 2/3", "user 1/2; user 2/3 x; shop 3/4", "- 1/2; city 1/2; user+city 1/7",
         "shop+user 1/1000 a; shop+user 1/3 b; shop+user 1/2 a", "user 1; # 1 b", "city 5/7; user 1/2 a; user 1/2")


def pair(fraction):
    return (fraction.numerator, fraction.denominator)


def samplings(pipeline):
    """What the document says of a coin: for each KEYSET and SALT the least share, if it is below one."""
    least = {}
    for sampler in pipeline.samplers:
        place = (sampler.keyset, sampler.salt)
        least[place] = min(least.get(place, 1), Fraction(*sampler.rate))
    return {place: share for place, share in least.items() if share < 1}


def by_all_coins(pipeline, stream):
    """The chance of each STREAM that can be kept, by going through all coins, each of which keeps or does not."""
    shares = [samplings(pipeline)[(keyset, salt)] for salt, keyset, _ in coins(pipeline, stream)]
    found = {}
    for sides in itertools.product((True, False), repeat=len(shares)):
        weight = Fraction(1)
        for keeps, share in zip(sides, shares):
            weight *= share if keeps else 1 - share
        numbers = [(0, 1) if keeps else pair(share) for keeps, share in zip(sides, shares)]
        kept = kept_by(pipeline, stream, numbers)
        found[kept] = found.get(kept, 0) + weight
    return found


def numbers_of(stream):
    return tuple(sorted(number for number, _ in stream))


def pipelines(texts=TEXTS, keys=SHOPS):
    return [Pipeline.of(keys, text) for text in texts]


class Streams(unittest.TestCase):
    def test_is_stream(self):
        for keys, thing in ((SHOPS, STREAM), (SHOPS, ()), (SHOPS, STREAM[:1]), (BARE, ()), (BARE, ((3, ()), (1, ()))),
                            (DAY, ((0, (-10 ** 80,)), (10 ** 80, (5,)))), (SHOPS, ((1, (1, 7, 5)), (2, (1, 8, 5))))):
            self.assertIs(is_stream(keys, thing), True)

    def test_is_no_stream(self):
        record = (1, (1, 2, 3))
        things = ([record], (list(record),), ((1, [1, 2, 3]),), record, ((True, (1, 2, 3)),), ((1, (True, 2, 3)),),
                  ((1, (1, 2, False)),), ((-1, (1, 2, 3)),), ((1, (1, 2)),), ((1, (1, 2, 3, 4)),), ((1, ()),), ((1,),),
                  ((1, (1, 2, 3), 4),), ((), ), (record, record), (record, (1, (5, 6, 7))), ((1, (1, 2, "3")),),
                  (("1", (1, 2, 3)),), ((None, (1, 2, 3)),), ((1, None),), ((1, (1, 2, None)),), ((1, (1, 2, (3,))),),
                  (record, (2, (4, 2, 3))), (record, (2, (1, 3, 3)), (3, (0, 2, 3))), (record, ()), None, 0, "", True, "ab",
                  ((1, 5),), ((1, "abc"),), (5,), (None,), ("ab",), SHOPS, (SHOPS,), ((SHOPS, (1, 2, 3)),), {}.get(1), [[]],
                  ((1, (1, 2, Pipeline(SHOPS))),), (((((((1,),),),),),),), ((1.0, (1, 2, 3)),))
        for thing in things:
            with self.subTest(thing=thing):
                self.assertIs(is_stream(SHOPS, thing), False)

    def test_the_keys_decide(self):
        thing = ((1, (1, 2, 3)), (2, (4, 2, 3)))
        self.assertIs(is_stream(SHOPS, thing), False)
        self.assertIs(is_stream(Keys(SHOPS.names), thing), True)
        self.assertIs(is_stream(DAY, thing), False)
        self.assertIs(is_stream(BARE, ((1, (0,)),)), False)

    def test_stream_of(self):
        self.assertEqual(stream_of(SHOPS, [list(record) for record in STREAM]), STREAM)
        self.assertEqual(stream_of(SHOPS, [[number, list(values)] for number, values in STREAM]), STREAM)
        self.assertEqual((stream_of(SHOPS, []), stream_of(BARE, [(0, [])])), ((), ((0, ()),)))

    def test_doubled(self):
        records = [(1, (1, 1, 1)), (2, (1, 1, 1)), (3, (2, 1, 1)), (2, (1, 1, 1)), (1, (1, 1, 1))]
        self.assertEqual(raised(self, Doubled, stream_of, SHOPS, records), {"number": 2})
        self.assertEqual(raised(self, Doubled, stream_of, BARE, [(0, ()), (0, ())]), {"number": 0})

    def test_unlawful(self):
        records = [(7, (0, 9, 1)), (5, (1, 1, 1)), (6, (1, 1, 2)), (3, (2, 1, 3)), (4, (3, 9, 1))]
        self.assertEqual(raised(self, Unlawful, stream_of, SHOPS, records), {"first": 5, "second": 3, "name": "city"})
        self.assertEqual(raised(self, Unlawful, stream_of, SHOPS, records[::-1]), {"first": 3, "second": 6, "name": "city"})
        # By the second name alone the first earlier one would be another one than by the first.
        keys = Keys(("a", "b", "x", "y"), (("a", "x"), ("b", "y")))
        records = [(0, (5, 1, 5, 1)), (1, (2, 6, 2, 6)), (2, (2, 1, 9, 9))]
        self.assertEqual(raised(self, Unlawful, stream_of, keys, records), {"first": 0, "second": 2, "name": "y"})
        records = [(0, (5, 1, 5, 1)), (1, (5, 1, 9, 9))]
        self.assertEqual(raised(self, Unlawful, stream_of, keys, records), {"first": 0, "second": 1, "name": "x"})
        # a tells b, b tells c, c tells d.
        self.assertEqual(raised(self, Unlawful, stream_of, CHAIN, [(0, (1, 1, 1, 1)), (1, (1, 1, 1, 2))])["name"], "d")
        self.assertEqual(raised(self, Unlawful, stream_of, CHAIN, [(0, (1, 1, 1, 1)), (1, (1, 2, 2, 2))])["name"], "b")

    def test_unlawful_against_all_pairs(self):
        values = list(itertools.product((0, 1), repeat=3))
        for picked in itertools.product(values, repeat=3):
            records = list(enumerate(picked))
            wanted = None
            for second in range(3):
                for first in range(second):
                    one, other = picked[first], picked[second]
                    if wanted is None and one[1] == other[1] and one[0] != other[0]:
                        wanted = {"first": first, "second": second, "name": "city"}
            self.assertIs(is_stream(SHOPS, tuple(records)), wanted is None)
            if wanted is None:
                self.assertEqual(stream_of(SHOPS, records), tuple(records))
            else:
                self.assertEqual(raised(self, Unlawful, stream_of, SHOPS, records), wanted)

    def test_long_streams(self):
        records = [(number, (number % 7, number % 49, number % 11)) for number in range(1000)]
        self.assertEqual(len(stream_of(SHOPS, records)), 1000)
        self.assertIs(is_stream(SHOPS, tuple(records)), True)
        self.assertIs(is_stream(SHOPS, (*records, (1000, (8, 7, 0)))), False)


class Likeness(unittest.TestCase):
    def test_agreement(self):
        one, two, three, four = STREAM
        self.assertEqual(agreement(SHOPS, one, two), ("city", "shop"))
        self.assertEqual(agreement(SHOPS, one, three), ("city", "user"))
        self.assertEqual((agreement(SHOPS, two, three), agreement(SHOPS, two, four)), (("city",), ()))
        self.assertEqual((agreement(SHOPS, one, one), agreement(BARE, (0, ()), (0, ()))), (EACH, EACH))
        self.assertEqual((agreement(BARE, (0, ()), (1, ())), agreement(DAY, (0, (5,)), (1, (5,)))), ((), ("day",)))

    def test_values_of(self):
        self.assertEqual(values_of(SHOPS, ("city", "shop"), STREAM[3]), (3, 4))
        self.assertEqual(values_of(SHOPS, ("city", "user"), STREAM[3]), (3, 5))
        self.assertEqual(values_of(SHOPS, SHOPS.names, STREAM[3]), (3, 4, 5))
        self.assertEqual((values_of(SHOPS, (), STREAM[3]), values_of(SHOPS, EACH, STREAM[3])), ((), (2,)))

    def test_classes(self):
        one, two, three, four = STREAM
        self.assertEqual(classes(SHOPS, ("user",), STREAM), [(one, three, four), (two,)])
        self.assertEqual(classes(SHOPS, ("city",), STREAM), [(one, two, three), (four,)])
        self.assertEqual(classes(SHOPS, EACH, STREAM), [(one,), (two,), (three,), (four,)])
        self.assertEqual((classes(SHOPS, (), STREAM), classes(SHOPS, (), ()), classes(SHOPS, EACH, ())), ([STREAM], [], []))

    def test_alike_in_a_keyset_is_equal_values(self):
        for keyset, (one, other) in itertools.product(SHOPS.keysets, itertools.product(STREAM, repeat=2)):
            alike = keyset in [part for part in SHOPS.keysets if set(part) <= set(agreement(SHOPS, one, other)) or one == other]
            self.assertIs(values_of(SHOPS, keyset, one) == values_of(SHOPS, keyset, other), alike)


class Coins(unittest.TestCase):
    def test_order(self):
        pipeline = Pipeline.of(SHOPS, "# 1/2 b; user 1/2 b; user 1/2; user 1/3 aa; city+user 1/2 a; - 1/2 z; # 1/2 a")
        stream = ((10, (1, 1, 6)), (9, (1, 1, -5)))
        user = ("user",)
        self.assertEqual(coins(pipeline, stream), (
            ("z", (), ()), ("", user, (-5,)), ("", user, (6,)), ("aa", user, (-5,)), ("aa", user, (6,)),
            ("b", user, (-5,)), ("b", user, (6,)), ("a", ("city", "user"), (1, -5)), ("a", ("city", "user"), (1, 6)),
            ("a", EACH, (9,)), ("a", EACH, (10,)), ("b", EACH, (9,)), ("b", EACH, (10,))))

    def test_none(self):
        self.assertEqual((coins(Pipeline(SHOPS), STREAM), coins(Pipeline.of(SHOPS, "user 1; # 1 a"), STREAM)), ((), ()))
        self.assertEqual(coins(Pipeline.of(SHOPS, "user 1/2"), ()), ())
        self.assertEqual(coins(Pipeline.of(BARE, "- 1/2; # 1/2"), ((3, ()),)), (("", (), ()), ("", EACH, (3,))))

    def test_a_salt_once(self):
        pipeline = Pipeline.of(SHOPS, "user 1; user 1/2; user 1/3; user 1 x")
        self.assertEqual(coins(pipeline, STREAM), (("", ("user",), (5,)), ("", ("user",), (6,))))

    def test_kept_by(self):
        pipeline = Pipeline.of(SHOPS, "user 1/2; user 1/3; - 3/4 a")
        one, two, three, four = STREAM
        self.assertEqual(kept_by(pipeline, STREAM, [(0, 1), (0, 1), (0, 1)]), STREAM)
        self.assertEqual(kept_by(pipeline, STREAM, [(0, 1), (1, 3), (333, 1000)]), (two,))
        self.assertEqual(kept_by(pipeline, STREAM, [(74, 100), (1, 4), (1, 2)]), (one, three, four))
        self.assertEqual(kept_by(pipeline, STREAM, [(3, 4), (0, 1), (0, 1)]), ())
        self.assertEqual(kept_by(Pipeline(SHOPS), STREAM, []), STREAM)
        self.assertEqual(kept_by(pipeline, (), []), ())

    def test_a_number_at_the_share_does_not_keep(self):
        pipeline, stream = Pipeline.of(DAY, "day 999/1000"), ((0, (1,)),)
        self.assertEqual(kept_by(pipeline, stream, [(999, 1000)]), ())
        self.assertEqual(kept_by(pipeline, stream, [(998, 999)]), stream)

    def test_bad_numbers(self):
        pipeline = Pipeline.of(SHOPS, "user 1/2; - 1/2")
        for numbers, place in (([], 0), ([(0, 1)], 1), ([(0, 1)] * 4, 3), ([(1, 1)] * 2, 2), ([(5, 1)] * 9, 3),
                               ([(0, 1), (1, 1), (2, 1)], 1), ([(0, 1), (0, 1), (-1, 2)], 2), ([(7, 2), (0, 1), (-1, 2)], 0)):
            self.assertEqual(raised(self, BadNumbers, kept_by, pipeline, STREAM, numbers), {"place": place})
        self.assertEqual(raised(self, BadNumbers, kept_by, Pipeline(SHOPS), STREAM, [(0, 1)]), {"place": 0})


class Chances(unittest.TestCase):
    def test_by_all_coins(self):
        # Guarantee (a): what is kept hangs on the shares alone, so the plain Pipeline keeps by the same chances.
        for pipeline in pipelines():
            for stream in (STREAM, STREAM[1:], STREAM[:1], ()):
                found = by_all_coins(pipeline, stream)
                wanted = sorted((numbers_of(kept), pair(each)) for kept, each in found.items() if each > 0)
                with self.subTest(pipeline=pipeline.text, stream=stream):
                    self.assertEqual(chances(pipeline, stream), wanted)
                    self.assertEqual(chances(pipeline.plain, stream), wanted)
                    self.assertEqual(sum(Fraction(*each) for _, each in wanted), 1)

    def test_chance_is_of_all_that_have_them(self):
        for pipeline in pipelines():
            found = by_all_coins(pipeline, STREAM)
            for many in range(5):
                for records in itertools.combinations(STREAM, many):
                    wanted = sum(each for kept, each in found.items() if set(records) <= set(kept))
                    self.assertEqual(chance(pipeline, records), pair(Fraction(wanted)))
                    exactly = found.get(records, Fraction(0))
                    self.assertEqual(chance_of(pipeline, STREAM, numbers_of(records)), pair(Fraction(exactly)))

    def test_pipelines_are_alike_exactly_if_all_chances_are(self):
        stream = ((0, (1, 1, 1)), (1, (1, 1, 2)), (2, (1, 2, 1)), (3, (2, 3, 1)), (4, (2, 3, 1)))
        texts = (*TEXTS, "user 1/6; # 1/2", "user 1/3; user 1/2 a", "user 1/6", "# 1/6", "city+user 1/6", "# 1/2 x")
        for one, other in itertools.combinations(pipelines(texts), 2):
            self.assertIs(chances(one, stream) == chances(other, stream), one == other)

    def test_one_record(self):
        for pipeline in pipelines():
            self.assertEqual(chance(pipeline, STREAM[:1]), pipeline.together(EACH))

    def test_two_records(self):
        for pipeline, (one, other) in itertools.product(pipelines(), itertools.combinations(STREAM, 2)):
            single = Fraction(*pipeline.together(EACH))
            wanted = single * single / Fraction(*pipeline.together(agreement(SHOPS, one, other)))
            self.assertEqual(chance(pipeline, (one, other)), pair(wanted))

    def test_none_and_all(self):
        self.assertEqual((chance(Pipeline.of(SHOPS, "- 1/2"), ()), chances(Pipeline.of(SHOPS, "- 1/2"), ())), ((1, 1), [((), (1, 1))]))
        self.assertEqual(chances(Pipeline(SHOPS), STREAM), [((0, 2, 4, 9), (1, 1))])
        self.assertEqual(chances(Pipeline.of(SHOPS, "- 1/3"), STREAM), [((), (2, 3)), ((0, 2, 4, 9), (1, 3))])
        self.assertEqual(chance_of(Pipeline.of(SHOPS, "- 1/3"), STREAM, (0, 2)), (0, 1))

    def test_bare_keys(self):
        stream, pipeline = ((1, ()), (0, ())), Pipeline.of(BARE, "- 1/2; # 1/3")
        self.assertEqual(chance(pipeline, stream), (1, 18))
        self.assertEqual(chances(pipeline, stream), [((), (13, 18)), ((0,), (1, 9)), ((0, 1), (1, 18)), ((1,), (1, 9))])

    def test_six_records(self):
        stream = tuple((number, (number % 2, number % 4, number % 3)) for number in range(6))
        for text in ("user 1/2; # 1/3", "city 2/3 a; city 1/2; shop 1/5; user 1/2", "# 1/2; # 1/2 a"):
            found = by_all_coins(Pipeline.of(SHOPS, text), stream)
            wanted = sorted((numbers_of(kept), pair(each)) for kept, each in found.items())
            self.assertEqual(chances(Pipeline.of(SHOPS, text), stream), wanted)

    def test_no_record(self):
        pipeline = Pipeline.of(SHOPS, "user 1/2")
        self.assertEqual(raised(self, NoRecord, chance_of, pipeline, STREAM, (0, 3, 4, 5)), {"number": 3})
        self.assertEqual(raised(self, NoRecord, chance_of, pipeline, (), (0,)), {"number": 0})


if __name__ == "__main__":
    unittest.main()
