"""[10] Tables of pipelines: numbers, least ones above, greatest ones below, moves and gaps."""

import itertools
import unittest
from fractions import Fraction

from surershares.errors import MixedKeys, NoPipeline, NotWithin, TooMuch
from surershares.keys import Keys, tops, within
from surershares.samplers import Pipeline
from surershares.surer import compare, surer_counts, surer_sums
from surershares.tables import (
    barrier, corners, gap, greatest_below, least_above, moved, moves, numbers, pipeline_by,
)
from test_keys import CHAIN, EACH, SHOPS, raised
from test_streams import BARE, DAY, pair

TWO = Keys(("day", "user"))
THREE = Keys(("day", "shop", "user"))
ORDERS = ("all", "sums", "counts")
RATES = ((1, 1), (1, 2), (1, 3))
TEXTS = ("", "- 1/2", "user 1/2", "# 1/2", "day+user 1/2", "day 1/2; user 1/2", "user 1/2; user 1/2 a; # 3/4", "user 1/3; - 2/3",
         "day 1/2; # 1/3", "day+user 2/3; user 3/4; day 4/5; - 5/6; # 6/7")
PIPELINES = [Pipeline.of(TWO, text) for text in TEXTS]
SHOP_TEXTS = ("", "city 1/2", "shop 1/2", "shop 1/2; user 1/3", "city+user 1/2", "- 1/2; # 1/2", "city 1/3; shop+user 1/2", "user 2/3")
SETS = ((TWO, TEXTS), (SHOPS, SHOP_TEXTS), (BARE, ("", "- 1/2", "# 1/2", "- 1/3; # 2/3")), (DAY, ("", "- 1/2", "day 1/2; # 1/3", "day 1")),
        (THREE, ("day 1/2; user 1/2; shop 1/2", "day+shop 1/2; day+user 1/3", "", "user 1/2; day+shop 1/2", "- 1/8", "shop+user 1/2")))


def every(keys, rates=RATES):
    """All plain Pipelines with these shares."""
    for shares in itertools.product(rates, repeat=len(keys.keysets)):
        yield pipeline_by(keys, "all", shares)


def pairs_of(sets=SETS):
    for keys, texts in sets:
        yield from itertools.product([Pipeline.of(keys, text) for text in texts], repeat=2)


def as_sure(p, q, order):
    """Whether p is at least as sure as q, by what the sections ahead define."""
    return {"all": lambda: q <= p, "sums": lambda: surer_sums(p, q), "counts": lambda: surer_counts(p, q)}[order]()


def is_plain(pipeline):
    return pipeline.text == pipeline.plain.text


def chosen(p, q, order, above):
    """The better or the worse ones of both numbers."""
    pick = max if above != (order == "sums") else min
    return tuple(pair(pick(Fraction(*one), Fraction(*other))) for one, other in zip(numbers(p, order), numbers(q, order)))


class Numbers(unittest.TestCase):
    def test_each_order(self):
        for keys, texts in SETS:
            for text in texts:
                one = Pipeline.of(keys, text)
                self.assertEqual(numbers(one, "all"), tuple(one.share(keyset) for keyset in keys.keysets))
                self.assertEqual(numbers(one, "sums"), tuple(one.squares(keyset) for keyset in keys.keysets))
                self.assertEqual(numbers(one, "counts"), tuple(one.together(keyset) for keyset in keys.keysets))

    def test_without_names_and_samplers(self):
        self.assertEqual([numbers(Pipeline(BARE), order) for order in ORDERS], [((1, 1), (1, 1)), ((1, 1), (0, 1)), ((1, 1), (1, 1))])
        one = Pipeline.of(BARE, "- 1/2; # 1/3")
        self.assertEqual([numbers(one, order) for order in ORDERS], [((1, 2), (1, 3)), ((2, 1), (4, 1)), ((1, 2), (1, 6))])

    def test_back_again(self):
        for keys, texts in SETS:
            for text, order in itertools.product(texts, ORDERS):
                one = Pipeline.of(keys, text)
                found = pipeline_by(keys, order, numbers(one, order))
                self.assertEqual((found, found.text), (one, one.plain.text))

    def test_all_small_tables(self):
        some = ((0, 1), (1, 3), (1, 2), (1, 1), (-1, 2), (2, 1))
        for order, asked in itertools.product(ORDERS, itertools.product(some, repeat=3)):
            shares = {}
            for place, keyset in enumerate(DAY.keysets):
                product, added = Fraction(1), Fraction(0)
                for at, part in enumerate(DAY.keysets[:place + 1]):
                    added += Fraction(*asked[at])
                    product *= shares.get(part, 1)
                number = Fraction(*asked[place])
                if order == "all":
                    share = number
                elif order == "counts":
                    share = number / product
                else:
                    share = 1 / (added * product) if added > 0 else 0
                if not 0 < share <= 1:
                    self.assertEqual(raised(self, NoPipeline, pipeline_by, DAY, order, asked), {"given": keyset})
                    break
                shares[keyset] = share
            else:
                found = pipeline_by(DAY, order, asked)
                self.assertEqual({keyset: Fraction(*found.share(keyset)) for keyset in DAY.keysets}, shares)
                self.assertEqual(numbers(found, order), asked)
                self.assertTrue(is_plain(found))

    def test_no_pipeline(self):
        one, half = (1, 1), (1, 2)
        for order, asked, given in (
                ("all", (one, one, (3, 2), (0, 1), one), ("user",)), ("all", (one, one, one, one, (0, 1)), EACH),
                ("all", ((-1, 2), one, one, one, one), ()), ("counts", (half, one, half, half, half), ("day",)),
                ("counts", (half, half, half, half, (0, 1)), EACH), ("counts", (one, half, half, half, half), ("day", "user")),
                ("sums", (half, one, one, one, one), ()), ("sums", ((0, 1), one, one, one, one), ()),
                ("sums", (one, (-2, 1), one, one, one), ("day",)), ("sums", (one, one, one, (-1, 1), one), ("day", "user")),
                ("sums", (one, one, (-1, 2), one, one), ("user",)), ("sums", (one, one, one, (-3, 1), one), ("day", "user"))):
            with self.subTest(order=order, asked=asked):
                self.assertEqual(raised(self, NoPipeline, pipeline_by, TWO, order, asked), {"given": given})

    def test_of_any_size(self):
        tiny = (1, 10 ** 40 + 1)
        self.assertEqual(pipeline_by(DAY, "counts", ((1, 1), (1, 1), tiny)).text, f"# 1/{10 ** 40 + 1}")
        self.assertEqual(pipeline_by(DAY, "sums", ((10 ** 30, 1), (0, 1), (10 ** 40, 1))).share(()), (1, 10 ** 30))
        self.assertEqual(raised(self, NoPipeline, pipeline_by, DAY, "all", ((10 ** 40, 3), (1, 1), (1, 1))), {"given": ()})


class AboveAndBelow(unittest.TestCase):
    def test_by_the_numbers(self):
        for (p, q), order, above in itertools.product(pairs_of(), ORDERS, (True, False)):
            asked = chosen(p, q, order, above)
            found = (least_above if above else greatest_below)(p, q, order)
            blocked = barrier(p, q, order, above)
            if blocked is None:
                self.assertEqual(numbers(found, order), asked)
                self.assertTrue(is_plain(found))
            else:
                self.assertIsNone(found)
                self.assertEqual(raised(self, NoPipeline, pipeline_by, p.schema, order, asked), {"given": blocked})
                self.assertGreaterEqual(len(tops(p.schema, blocked)), 2)

    def test_for_all_it_is_the_lattice_of_shares(self):
        for p, q in pairs_of():
            self.assertEqual(least_above(p, q, "all").text, (p | q).text)
            self.assertEqual(greatest_below(p, q, "all").text, (p & q).text)
            self.assertEqual((barrier(p, q, "all", True), barrier(p, q, "all", False), corners(p, q, "all")), (None, None, []))

    def test_least_and_greatest_among_drawn_ones(self):
        drawn = list(every(TWO))
        for (p, q), order in itertools.product(itertools.product(PIPELINES[1:8], repeat=2), ORDERS):
            up, down = least_above(p, q, order), greatest_below(p, q, order)
            if up is not None:
                self.assertTrue(as_sure(up, p, order) and as_sure(up, q, order))
            if down is not None:
                self.assertTrue(as_sure(p, down, order) and as_sure(q, down, order))
            for each in drawn[::7]:
                if up is not None and as_sure(each, p, order) and as_sure(each, q, order):
                    self.assertTrue(as_sure(each, up, order))
                if down is not None and as_sure(p, each, order) and as_sure(q, each, order):
                    self.assertTrue(as_sure(down, each, order))

    def test_none_is_least_where_there_is_a_barrier(self):
        drawn = list(every(TWO, ((1, 1), (1, 2), (2, 3))))
        met = 0
        blocked = [Pipeline.of(TWO, text) for text in ("- 1/2", "day 1/2", "user 1/2", "day 1/2; user 1/2", "- 1/4", "day 1/2; user 1/4")]
        for (p, q), order in itertools.product(itertools.product(blocked, repeat=2), ORDERS):
            for above in (True, False):
                if barrier(p, q, order, above) is None:
                    continue
                met += 1
                if above:
                    bounds = [each for each in drawn if as_sure(each, p, order) and as_sure(each, q, order)] + corners(p, q, order)
                    found = [one for one in bounds if all(as_sure(other, one, order) for other in bounds)]
                else:
                    bounds = [each for each in drawn if as_sure(p, each, order) and as_sure(q, each, order)]
                    found = [one for one in bounds if all(as_sure(one, other, order) for other in bounds)]
                self.assertGreater(len(bounds), 1)
                self.assertEqual(found, [])
        self.assertGreater(met, 5)

    def test_alike(self):
        for one, order in itertools.product(PIPELINES, ORDERS):
            self.assertEqual(least_above(one, one.plain, order).text, one.plain.text)
            self.assertEqual(greatest_below(one.plain, one, order), one)

    def test_any_order_of_both(self):
        for (p, q), order in itertools.product(pairs_of(), ORDERS):
            self.assertEqual(least_above(p, q, order), least_above(q, p, order))
            self.assertEqual(greatest_below(p, q, order), greatest_below(q, p, order))
            self.assertEqual(barrier(p, q, order, True), barrier(q, p, order, True))
            self.assertEqual(corners(p, q, order), corners(q, p, order))


class Corners(unittest.TestCase):
    def test_at_least_as_sure_as_both(self):
        met = 0
        for (p, q), order in itertools.product(pairs_of(), ORDERS):
            blocked = barrier(p, q, order, True)
            found = corners(p, q, order)
            if blocked is None:
                self.assertEqual(found, [])
                continue
            met += 1
            self.assertEqual(len(found), len(tops(p.schema, blocked)))
            for each in found:
                self.assertTrue(is_plain(each))
                self.assertTrue(as_sure(each, p, order) and as_sure(each, q, order))
        self.assertGreater(met, 5)

    def test_nothing_is_below_all_of_them(self):
        for (p, q), order in itertools.product(itertools.product(PIPELINES[1:7], repeat=2), ORDERS):
            found = corners(p, q, order)
            for each in list(every(TWO))[::5] if found else ():
                if as_sure(each, p, order) and as_sure(each, q, order):
                    self.assertFalse(all(as_sure(corner, each, order) for corner in found))

    def test_which_shares_they_have(self):
        p, q = Pipeline.of(THREE, "- 3/4; day 1/2; user 1/2"), Pipeline.of(THREE, "- 3/8; shop 1/2")
        self.assertEqual(barrier(p, q, "counts", True), ("day", "user"))
        self.assertEqual([each.text for each in corners(p, q, "counts")], ["- 3/4; user 1/2", "- 3/4; day 1/2"])

    def test_tops_of_a_barrier_that_tells(self):
        p, q = Pipeline.of(SHOPS, "city 1/2; shop 1/2; user 1/2"), Pipeline.of(SHOPS, "- 1/4")
        self.assertEqual(barrier(p, q, "counts", True), ("city", "shop", "user"))
        self.assertEqual([each.text for each in corners(p, q, "counts")], ["city 1/2; user 1/2", "city 1/2; city+shop 1/2"])


class Moved(unittest.TestCase):
    def test_what_it_does(self):
        for keys, texts in SETS:
            for text, (low, high) in itertools.product(texts, itertools.product(keys.keysets, repeat=2)):
                one = Pipeline.of(keys, text)
                if low == high or not within(low, high):
                    self.assertEqual(raised(self, NotWithin, moved, one, low, high, (1, 2)), {"given": high})
                    continue
                share = Fraction(*one.share(low))
                if share > Fraction(1, 2):
                    self.assertEqual(raised(self, TooMuch, moved, one, low, high, (1, 2)), {"given": low})
                for rate in (Fraction(1), Fraction(1, 2), Fraction(3, 4), Fraction(9, 10)):
                    if share <= rate:
                        self.check(one, low, high, rate)

    def check(self, one, low, high, rate):
        found = moved(one, low, high, pair(rate))
        self.assertTrue(is_plain(found))
        for keyset in one.schema.keysets:
            factor = 1 / rate if keyset == low else rate if keyset == high else 1
            self.assertEqual(Fraction(*found.share(keyset)), Fraction(*one.share(keyset)) * factor)
        self.assertEqual(found.together(EACH), one.together(EACH))
        self.assertTrue(surer_counts(found, one))
        self.assertIs(surer_sums(found, one), rate == 1)

    def test_equal_to_one_is_not_too_much(self):
        one = Pipeline.of(TWO, "user 1/2")
        self.assertEqual(moved(one, ("user",), EACH, (1, 2)).text, "# 1/2")
        self.assertEqual(moved(one, (), EACH, (1, 1)).text, "user 1/2")
        self.assertEqual(raised(self, TooMuch, moved, one, ("user",), EACH, (49, 100)), {"given": ("user",)})

    def test_not_within_goes_ahead(self):
        none = Pipeline(TWO)
        self.assertEqual(raised(self, NotWithin, moved, none, ("user",), ("user",), (1, 2)), {"given": ("user",)})
        self.assertEqual(raised(self, NotWithin, moved, none, EACH, ("user",), (1, 2)), {"given": ("user",)})
        self.assertEqual(raised(self, NotWithin, moved, none, ["user"], ["day"], [1, 2]), {"given": ("day",)})
        self.assertEqual(raised(self, TooMuch, moved, none, ["day"], ["day", "user"], [1, 2]), {"given": ("day",)})


def grounds(keys):
    """All sets of KEYSETs none of which is within another one, as lists in order; not the empty one."""
    for many in range(1, 5):
        for chosen_ones in itertools.combinations(keys.keysets, many):
            if not any(within(one, other) for one, other in itertools.permutations(chosen_ones, 2)):
                yield list(chosen_ones)


def product_within(pipeline, ground):
    found = Fraction(1)
    for keyset in pipeline.schema.keysets:
        if any(within(keyset, each) for each in ground):
            found *= Fraction(*pipeline.share(keyset))
    return found


class Moves(unittest.TestCase):
    def check(self, p, q):
        found, shown = moves(p, q), gap(p, q)
        lacking = [ground for ground in grounds(p.schema) if product_within(p, ground) < product_within(q, ground)]
        self.assertIs(found is None, len(lacking) > 0)
        self.assertIs(shown is None, found is not None)
        if found is None:
            self.assertIn(shown, lacking)
            return
        here = q
        for low, high, rate in found:
            here = moved(here, low, high, rate)
        self.assertTrue(here <= p)
        self.assertTrue(surer_counts(p, q))
        self.assertEqual(found == [], q <= p)

    def test_small_ones(self):
        for p, q in pairs_of():
            self.check(p, q)

    def test_all_of_two_names(self):
        drawn = list(every(TWO))
        for p, q in itertools.product(drawn[::7], drawn[::11]):
            self.check(p, q)

    def test_three_names_and_chains(self):
        for keys in (THREE, SHOPS, CHAIN):
            rates = itertools.cycle([(1, 1), (1, 2), (2, 3), (1, 1), (1, 6), (3, 4), (1, 1)])
            drawn = [pipeline_by(keys, "all", [next(rates) for _ in keys.keysets]) for _ in range(40)]
            for p, q in itertools.product(drawn, repeat=2):
                self.check(p, q)

    def test_what_is_given_is_taken_back(self):
        # user serves day+user first, though user+shop can be served by it alone, and day+user by day as well.
        p = Pipeline.of(THREE, "day+user 1/2; shop+user 1/2")
        for text in ("user 1/2; day 1/2", "day 1/2; user 1/2", "- 1/2; user 1/2", "- 1/4", "user 1/4"):
            self.check(p, Pipeline.of(THREE, text))
            self.assertIsNotNone(moves(p, Pipeline.of(THREE, text)))
        self.check(p, Pipeline.of(THREE, "day 1/4"))
        self.assertEqual(gap(p, Pipeline.of(THREE, "day 1/4")), [("shop", "user")])

    def test_what_is_given_is_taken_back_twice(self):
        # c is all that can give to c+d, but has given to a+c, as a has given to a+b, which b can give to.
        four = Keys(("a", "b", "c", "d"))
        for shares in itertools.permutations(((1, 2), (1, 3), (1, 5))):
            p = pipeline_by(four, "all", [dict(zip((("a", "b"), ("a", "c"), ("c", "d")), shares)).get(keyset, (1, 1)) for keyset in four.keysets])
            q = pipeline_by(four, "all", [dict(zip((("b",), ("a",), ("c",)), shares)).get(keyset, (1, 1)) for keyset in four.keysets])
            here = q
            for low, high, rate in moves(p, q):
                here = moved(here, low, high, rate)
            self.assertEqual(here, p)

    def test_several_moves(self):
        p, q = Pipeline.of(THREE, "day 1/2; shop 1/3; user 1/5"), Pipeline.of(THREE, "- 1/30")
        found = moves(p, q)
        self.assertEqual(sorted(found), [((), ("day",), (1, 2)), ((), ("shop",), (1, 3)), ((), ("user",), (1, 5))])
        self.check(p, q)

    def test_thinner_needs_none(self):
        p, q = Pipeline.of(TWO, "user 1/2"), Pipeline.of(TWO, "user 1/4; # 1/2")
        self.assertEqual((moves(p, q), gap(p, q), moves(p, p), gap(p, p)), ([], None, [], None))
        self.assertIsNone(moves(q, p))

    def test_a_gap_of_several_keysets(self):
        p = Pipeline.of(THREE, "shop+user 1/2; day+user 1/2")
        q = Pipeline.of(THREE, "user 1/2; day+shop+user 1/2")
        self.assertEqual(compare(p, q), "counts")
        self.assertEqual(gap(p, q), [("day", "user"), ("shop", "user")])
        four = Keys(("a", "b", "c", "d"))
        p, q = Pipeline.of(four, "a+d 1/2; b+d 1/2; c+d 1/2"), Pipeline.of(four, "d 1/4; a+b+c+d 1/2")
        self.assertIsNone(moves(p, q))
        self.assertEqual(gap(p, q), [("a", "d"), ("b", "d"), ("c", "d")])

    def test_great_shares(self):
        four = Keys(("a", "b", "c", "d"))
        rates = itertools.cycle([(999, 1000), (1, 1000), (997, 999), (3, 7), (1, 1), (500, 997)])
        drawn = [pipeline_by(four, "all", [next(rates) for _ in range(17)]) for _ in range(6)]
        for p, q in itertools.product(drawn, repeat=2):
            found = moves(p, q)
            if found is None:
                ground = gap(p, q)
                self.assertLess(product_within(p, ground), product_within(q, ground))
                continue
            for low, high, rate in found:
                q = moved(q, low, high, rate)
            self.assertTrue(q <= p)


class Mixed(unittest.TestCase):
    def test_keys_go_ahead(self):
        p, q = Pipeline.of(TWO, "day 1/2; user 1/2"), Pipeline.of(Keys(TWO.names, (("user", "day"),)), "- 1/2")
        for order in ORDERS:
            for call in (least_above, greatest_below, corners):
                self.assertEqual(raised(self, MixedKeys, call, p, q, order), {})
            for above in (True, False):
                self.assertEqual(raised(self, MixedKeys, barrier, p, q, order, above), {})
        for call in (moves, gap):
            self.assertEqual(raised(self, MixedKeys, call, p, q), {})
            self.assertEqual(raised(self, MixedKeys, call, q, p), {})


if __name__ == "__main__":
    unittest.main()
