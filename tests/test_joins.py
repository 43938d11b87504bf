"""[11] Joins of two streams, and Crossings that show where sharing is worse."""

import itertools
import unittest
from fractions import Fraction

from surershares.errors import MixedKeys, NoName, TooLong
from surershares.joins import Crossing, Join, crossing
from surershares.keys import Keys, joint, within
from surershares.samplers import Pipeline
from surershares.streams import coins, is_stream, kept_by
from test_keys import EACH, SHOPS, raised
from test_streams import BARE, DAY, pair, samplings

TWO = Keys(("shop", "user"))
NONE = (None, None)
SIDES = (("user 1/2; # 1/3", "user 1/4"), ("user 1/2", "user 1/4 a"), ("user 1/2 a; user 1/3", "user 1/4 a; user 2/3; user 1/5 b"),
         ("- 1/2; shop 2/3", "- 3/4; user 1/2"), ("", "user 1/2"), ("", ""), ("# 1/2", "# 1/3"), ("shop+user 1/2; user 1/3", "shop+user 1/5"),
         ("user 1; - 1/2 x", "user 1/2; - 1/3 x"), ("user 1/2; user 1/4", "user 1/3; user 1/2"))
STREAMS = (((), ()), (((0, (1, 7)),), ()), (((0, (1, 7)), (1, (1, 8))), ((0, (2, 7)), (1, (3, 7)))),
           (((5, (1, 1)), (3, (1, 2))), ((5, (1, 1)),)), ((), ((2, (0, 0)), (1, (0, 1)))))
QUESTIONS = (NONE, (((0, 3), (5, -2)), None), (None, ((1, -1), (0, 2), (77, 5))), (((0, 1), (1, -1), (3, 0)), ((5, 4), (1, 1), (0, -1))),
             ((), None))


def joins(keys=TWO, sides=SIDES):
    for (left, right), keyset in itertools.product(sides, keys.keysets[:-1]):
        yield Join(Pipeline.of(keys, left), Pipeline.of(keys, right), keyset)


def by_all_coins(join, lefts, rights):
    """The pairs (chance, what is kept of both) by going through all coins, those that stand on both sides once."""
    sides = [(join.left, lefts, samplings(join.left)), (join.right, rights, samplings(join.right))]
    found = {}
    for side, (pipeline, stream, shares) in enumerate(sides):
        for coin in coins(pipeline, stream):
            place = (coin, side if coin[1] == EACH else None)
            found.setdefault(place, {})[side] = shares[(coin[1], coin[0])]
    steps = []
    for shares in found.values():
        limits = sorted({Fraction(0), Fraction(1), *shares.values()})
        steps.append([(upper - lower, lower) for lower, upper in zip(limits, limits[1:])])
    for drawn in itertools.product(*steps):
        chance = Fraction(1)
        for width, _ in drawn:
            chance *= width
        numbers = {place: number for place, (_, number) in zip(found, drawn)}
        kept = []
        for side, (pipeline, stream, _) in enumerate(sides):
            own = [numbers[(coin, side if coin[1] == EACH else None)] for coin in coins(pipeline, stream)]
            kept.append(kept_by(pipeline, stream, [pair(number) for number in own]))
        yield chance, kept[0], kept[1]


def worth(table, number):
    return 1 if table is None else dict(table).get(number, 0)


def value_by_hand(join, lefts, rights, question):
    names = join.schema.names
    found = 0
    for (number, values), (other, others) in itertools.product(lefts, rights):
        if all(values[names.index(name)] == others[names.index(name)] for name in join.keyset):
            found += worth(question[0], number) * worth(question[1], other)
    return found


class Making(unittest.TestCase):
    def test_what_it_tells(self):
        left, right = Pipeline.of(SHOPS, "shop 1/2"), Pipeline.of(SHOPS, "shop 1/3; user 1/2")
        join = Join(left, right, ("user", "shop", "user"))
        self.assertEqual((join.keyset, join.schema), (("city", "shop", "user"), SHOPS))
        self.assertEqual((join.left.text, join.right.text), ("city+shop 1/2", "city+shop 1/3; user 1/2"))
        self.assertEqual(join.shared, (("city", "shop"),))

    def test_errors_in_order(self):
        left, right = Pipeline.of(TWO, "user 1/2"), Pipeline.of(SHOPS, "user 1/2")
        self.assertEqual(raised(self, MixedKeys, Join, left, right, ("x",)), {})
        for names, name in ((("user", "#"), "#"), (("#",), "#"), (("user", "x", "y"), "x"), (("#", "x"), "#"), (["city"], "city")):
            self.assertEqual(raised(self, NoName, Join, left, left, names), {"name": name})

    def test_does_not_change(self):
        join = next(joins())
        for name in ("left", "right", "keyset", "schema", "shared"):
            with self.assertRaises(AttributeError):
                setattr(join, name, None)


class Chances(unittest.TestCase):
    def test_by_all_coins(self):
        for join, (lefts, rights) in itertools.product(joins(), STREAMS):
            if len(coins(join.left, lefts)) + len(coins(join.right, rights)) > 9:
                continue
            drawn = list(by_all_coins(join, lefts, rights))
            self.assertEqual(sum(each[0] for each in drawn), 1)
            whole = sum(each[0] for each in drawn if each[1:] == (lefts, rights))
            self.assertEqual(join.chance(lefts, rights), pair(Fraction(whole)))
            for question in QUESTIONS:
                self.check(join, lefts, rights, question, drawn)

    def check(self, join, lefts, rights, question, drawn):
        value = value_by_hand(join, lefts, rights, question)
        self.assertEqual(join.value(lefts, rights, question), value)
        mean = square = Fraction(0)
        for chance, kept, other in drawn:
            told = Fraction(*join.answer(kept, other, question))
            mean += chance * told
            square += chance * told * told
        self.assertEqual(mean, value)
        self.assertEqual(join.spread(lefts, rights, question), pair(square - value * value))

    def test_several_coins_by_all_of_them(self):
        lefts = ((0, (1, 7)), (1, (2, 7)), (4, (1, 8)))
        rights = ((0, (1, 7)), (1, (2, 8)), (2, (2, 7)))
        for left, right in (("user 1/2; shop 1/3", "user 1/4; shop 1/2 a"), ("shop+user 1/2", "shop+user 2/3; - 1/2"),
                            ("shop 1/2; # 1/2", "shop 2/3; user 1/2"), ("user 2/3 a; user 1/2", "user 1/2 a")):
            for keyset in TWO.keysets[:-1]:
                join = Join(Pipeline.of(TWO, left), Pipeline.of(TWO, right), keyset)
                drawn = list(by_all_coins(join, lefts, rights))
                for question in (NONE, (((0, 1), (1, -1)), ((0, 2), (2, 3)))):
                    self.check(join, lefts, rights, question, drawn)

    def test_without_names_and_with_one(self):
        for keys, texts in ((BARE, ("", "- 1/2", "- 1/3; # 1/2", "- 1/2 a")), (DAY, ("", "- 1/2; day 1/3", "day 2/3; # 1/2", "day 1/2 a"))):
            zeros = (0,) * len(keys)
            lefts, rights = ((0, zeros), (1, zeros)), ((0, zeros),)
            for left, right in itertools.product(texts, repeat=2):
                join = Join(Pipeline.of(keys, left), Pipeline.of(keys, right), keys.names)
                drawn = list(by_all_coins(join, lefts, rights))
                self.assertEqual(join.joined(lefts, rights), [(0, 0), (1, 0)])
                self.check(join, lefts, rights, NONE, drawn)
                self.check(join, lefts, rights, (((1, 5),), ((0, -1),)), drawn)

    def test_joined_is_ascending(self):
        lefts = ((9, (1, 1)), (2, (2, 1)), (5, (1, 2)))
        rights = ((8, (3, 1)), (1, (4, 2)), (2, (5, 1)))
        join = Join(Pipeline(TWO), Pipeline(TWO), ("user",))
        self.assertEqual(join.joined(lefts, rights), [(2, 2), (2, 8), (5, 1), (9, 2), (9, 8)])
        self.assertEqual(Join(Pipeline(TWO), Pipeline(TWO), ()).joined(lefts, rights), sorted(itertools.product((2, 5, 9), (1, 2, 8))))
        self.assertEqual((join.joined((), rights), join.joined(lefts, ()), join.value((), rights), join.spread(lefts, ())), ([], [], 0, (0, 1)))

    def test_alike_in_what_a_name_tells(self):
        join = Join(Pipeline.of(SHOPS, "city 1/2"), Pipeline.of(SHOPS, "city 1/3"), ("shop",))
        lefts, rights = ((0, (1, 1, 5)), (1, (2, 2, 5))), ((0, (1, 1, 6)), (1, (2, 3, 6)))
        self.assertEqual((join.keyset, join.joined(lefts, rights)), (("city", "shop"), [(0, 0)]))
        self.assertEqual((join.answer(lefts, rights), join.chance(lefts, rights)), ((3, 1), (1, 9)))

    def test_the_same_numbers_are_no_same_records(self):
        join = Join(Pipeline.of(TWO, "# 1/2"), Pipeline.of(TWO, "# 1/3"), ())
        one = ((4, (0, 0)),)
        self.assertEqual((join.chance(one, one), join.gain(EACH), join.shared), ((1, 6), (1, 1), ()))
        self.assertEqual(join.spread(one, one), (5, 1))

    def test_the_question_is_left_out(self):
        join = next(joins())
        lefts, rights = STREAMS[2]
        for call in (join.value, join.answer, join.spread):
            self.assertEqual(call(lefts, rights), call(lefts, rights, (None, None)))

    def test_long_sides(self):
        keys = Keys(("a", "b", "c"))
        join = Join(Pipeline.of(keys, "a 1/2; a+b 2/3; c 3/4; # 1/2"), Pipeline.of(keys, "a 1/3; a+b 1/2; b 1/2; # 1/5"), ("a",))
        lefts = tuple((k, (k % 2, k % 3, k % 5)) for k in range(12))
        rights = tuple((k, (k % 2, k % 4, k % 3)) for k in range(0, 24, 2))
        rows = [(one, other) for one, other in itertools.product(lefts, rights) if one[1][0] == other[1][0]]
        self.assertEqual(join.value(lefts, rights), len(rows))
        known = [Fraction(*join.chance([one], [other])) for one, other in rows]
        met, square = {}, Fraction(0)
        for (at, (one, other)), (after, (also, beside)) in itertools.product(enumerate(rows), repeat=2):
            both = (tuple(sorted({one, also})), tuple(sorted({other, beside})))
            if both not in met:
                met[both] = Fraction(*join.chance(*both))
            square += met[both] / known[at] / known[after]
        self.assertEqual(join.spread(lefts, rights), pair(square - len(rows) ** 2))


class Gains(unittest.TestCase):
    def test_by_the_samples(self):
        for join in joins():
            left, right = samplings(join.left), samplings(join.right)
            for keyset in TWO.keysets:
                wanted = Fraction(1)
                for part, salt in left:
                    if part == keyset != EACH and (part, salt) in right:
                        wanted /= max(left[(part, salt)], right[(part, salt)])
                self.assertEqual(join.gain(keyset), pair(wanted))
            self.assertEqual(join.shared, tuple(keyset for keyset in TWO.keysets if join.gain(keyset) != (1, 1)))

    def test_how_many_times_as_often(self):
        one, other = ((0, (1, 7)),), ((0, (2, 7)),)
        for join in joins():
            apart = join
            for keyset in TWO.keysets:
                apart = apart.apart(keyset)
            self.assertEqual(apart.shared, ())
            factor = Fraction(*join.gain(("user",))) * Fraction(*join.gain(()))
            self.assertEqual(Fraction(*join.chance(one, other)), Fraction(*apart.chance(one, other)) * factor)

    def test_apart(self):
        for join, keyset in itertools.product(joins(), TWO.keysets):
            apart = join.apart(keyset)
            self.assertTrue(apart.left == join.left and apart.right == join.right)
            self.assertEqual((apart.left.text, apart.keyset), (join.left.text, join.keyset))
            for part in TWO.keysets:
                self.assertEqual(apart.gain(part), (1, 1) if part == keyset else join.gain(part))

    def test_apart_never_lessens_within(self):
        less = 0
        for join, keyset, (lefts, rights), question in itertools.product(joins(), TWO.keysets, STREAMS[1:], QUESTIONS):
            one = Fraction(*join.spread(lefts, rights, question))
            other = Fraction(*join.apart(keyset).spread(lefts, rights, question))
            if within(keyset, join.keyset):
                self.assertLessEqual(one, other)
                less += one < other
            elif join.gain(keyset) == (1, 1):
                self.assertEqual(one, other)
        self.assertGreater(less, 20)

    def test_best(self):
        for join in joins():
            best = join.best()
            self.assertEqual((best.left.text, best.keyset), (join.left.plain.text, join.keyset))
            texts = [sampler.text + ("" if within(sampler.keyset, join.keyset) else " r") for sampler in join.right.plain.samplers]
            self.assertEqual([sampler.text for sampler in best.right.samplers], texts)
            self.assertTrue(all(within(keyset, join.keyset) for keyset in best.shared))
            if all(within(keyset, join.keyset) for keyset in join.shared):
                for (lefts, rights), question in itertools.product(STREAMS, QUESTIONS):
                    self.assertLessEqual(Fraction(*best.spread(lefts, rights, question)), Fraction(*join.spread(lefts, rights, question)))

    def test_equal(self):
        def made(left, right, names=("user",), keys=TWO):
            return Join(Pipeline.of(keys, left), Pipeline.of(keys, right), names)

        one = made("user 1/2; # 1/3", "user 1/4")
        for same in (made("# 1/3; user 1/2 b", "user 1/4 b"), made("user 1/2; # 1/3; user 1", "user 1/4; user 1/2"),
                     made("user 1/2; # 1/3", "user 1/4", ["user", "user"]), made("user 1/2; # 1/3 r", "user 1/4; shop 1")):
            self.assertIs(one == same, True)
            self.assertIs(one != same, False)
        told = Keys(TWO.names, (("user", "shop"),))
        others = (made("user 1/2; # 1/3", "user 1/4 b"), made("user 1/2; # 1/3", "user 1/4", ()), made("user 1/2", "user 1/4"),
                  made("user 1/2; # 1/3", "user 1/5"), made("user 1/4", "user 1/2; # 1/3"), made("", "", (), told), None, one.left, ("user",),
                  made("user 1/2; # 1/3", "user 3/4; user 1/3 a"))
        for other in others:
            self.assertIs(one == other, False)
            self.assertIs(one != other, True)
        self.assertIs(made("", "", ()) == made("", "", (), told), False)


def crossing_by_hand(join, keyset, n):
    """The STREAMs and the question of a Crossing with n RECORDs on each side, as the document writes them."""
    outer = joint(join.keyset, keyset)
    sides = []
    for start in (n + 1, 2 * n + 1):
        rows = []
        for k in range(n):
            values = [0 if name in join.keyset else k + 1 if name in outer else k + start for name in join.schema.names]
            rows.append((k, tuple(values)))
        sides.append(tuple(rows))
    table = tuple((k, -1 if k % 2 else 1) for k in range(n))
    return sides[0], sides[1], (table, table)


class Crossings(unittest.TestCase):
    def test_all_small_ones(self):
        met = 0
        for join, keyset in itertools.product(joins(), TWO.keysets):
            found = crossing(join, keyset)
            if within(keyset, join.keyset) or join.gain(keyset) == (1, 1):
                self.assertIsNone(found)
                continue
            met += 1
            self.check(join, keyset, found)
        self.assertGreater(met, 8)

    def check(self, join, keyset, found):
        self.assertEqual((found.n % 2, found.n > 0), (0, True))
        apart = join.apart(keyset)
        for n in range(2, min(found.n, 12) + 1, 2):
            lefts, rights, question = crossing_by_hand(join, keyset, n)
            spreads = tuple(each.spread(lefts, rights, question) for each in (join, apart))
            if n == found.n:
                self.assertEqual((found.spreads, found.streams(), found.asked), (spreads, (lefts, rights), question))
                self.assertGreater(Fraction(*spreads[0]), Fraction(*spreads[1]))
                self.go_together(join.schema, lefts, rights)
            else:
                self.assertLessEqual(Fraction(*spreads[0]), Fraction(*spreads[1]))

    def go_together(self, keys, lefts, rights):
        both = lefts + tuple((number + len(lefts), values) for number, values in rights)
        self.assertTrue(is_stream(keys, lefts) and is_stream(keys, rights) and is_stream(keys, both))

    def test_keys_that_tell(self):
        sides = (("shop 1/2", "shop 2/3"), ("city 9/10; user 1/2", "city 9/10; user 4/5; shop 1/2"), ("user 99/100; city 1/2", "user 1/2; city 2/3"),
                 ("city+user 1/2; - 1/3", "city+user 1/3; - 1/2; # 8/9"))
        met = 0
        for join, keyset in itertools.product(joins(SHOPS, sides), SHOPS.keysets):
            found = crossing(join, keyset)
            if found is not None:
                met += 1
                self.check(join, keyset, found)
        self.assertGreater(met, 10)

    def test_two_shared_keysets(self):
        join = Join(Pipeline.of(TWO, "- 1/2; user 1/2; shop 3/4"), Pipeline.of(TWO, "- 2/3; user 1/3; shop 7/8"), ())
        for keyset in (("user",), ("shop",)):
            self.check(join, keyset, crossing(join, keyset))
        wide = Join(Pipeline.of(TWO, "user 1/2; shop+user 3/4"), Pipeline.of(TWO, "user 2/3; shop+user 7/8"), ())
        self.check(wide, ("shop", "user"), crossing(wide, ["shop", "user"]))
        self.check(wide, ("user",), crossing(wide, ("user",)))

    def great(self, many):
        sampled = "; ".join(f"# 1/{many} {salt}" for salt in "ab")
        return Join(Pipeline.of(DAY, f"day 998/999; {sampled}"), Pipeline.of(DAY, f"day 999/1000; {sampled}"), ())

    def test_great_numbers(self):
        join = self.great(1000)
        found = crossing(join, ("day",))
        l, r = Fraction(999, 998) * 10 ** 6, Fraction(1000, 999) * 10 ** 6
        g, one = Fraction(1000, 999), Fraction(1)

        def spread(n, gained):
            squared = (l - 1) * (r - 1) + (gained - 1) ** 2
            return n * n * squared + n * (l * r * (1 / gained - 1) - (gained - 1) * (gained - 3))

        self.assertGreater(found.n, 10 ** 15)
        self.assertEqual((found.n % 2, found.spreads), (0, (pair(spread(found.n, g)), pair(spread(found.n, one)))))
        self.assertGreater(spread(found.n, g), spread(found.n, one))
        self.assertLessEqual(spread(found.n - 2, g), spread(found.n - 2, one))
        self.assertEqual(raised(self, TooLong, found.streams), {"length": 2 * found.n})

    def test_just_too_long(self):
        # With a gain of 2 and 1 / share of the record, here bottom, n is above 2 * bottom - 1.
        for bottom in (2, 7, 249, 250, 251, 600):
            join = Join(Pipeline.of(DAY, f"day 1/2; # 1/{bottom}"), Pipeline.of(DAY, "day 1/2"), ())
            found = crossing(join, ("day",))
            self.assertEqual(found.n, 2 * bottom)
            if bottom > 250:
                self.assertEqual(raised(self, TooLong, found.streams), {"length": 4 * bottom})
                continue
            self.assertEqual([len(side) for side in found.streams()], [found.n, found.n])
            self.assertEqual(found.streams()[0][-1], (found.n - 1, (found.n,)))

    def test_equal(self):
        join = Join(Pipeline.of(TWO, "user 1/2; # 1/3"), Pipeline.of(TWO, "user 1/4"), ())
        one = crossing(join, ("user",))
        self.assertIsInstance(one, Crossing)
        self.assertIs(one == crossing(join, ["user"]), True)
        # The keyset is not looked at: by shop alone all is as by user.
        other = Join(Pipeline.of(TWO, "shop 1/2; # 1/3"), Pipeline.of(TWO, "shop 1/4"), ())
        self.assertIs(one == crossing(other, ("shop",)), True)
        third = Join(Pipeline.of(TWO, "user 1/2; # 1/3"), Pipeline.of(TWO, "user 1/3"), ())
        for each in (crossing(third, ("user",)), None, one.n, one.spreads, join):
            self.assertIs(one == each, False)
            self.assertIs(one != each, True)

    def test_does_not_change(self):
        one = crossing(Join(Pipeline.of(TWO, "user 1/2"), Pipeline.of(TWO, "user 1/4"), ()), ("user",))
        for name in ("n", "spreads", "asked"):
            with self.assertRaises(AttributeError):
                setattr(one, name, None)


if __name__ == "__main__":
    unittest.main()
