"""[7] What can be had from a Pipeline by thinning further, and Grids that show where it cannot."""

import itertools
import unittest
from fractions import Fraction

from surershares.errors import MixedKeys, NoName, NoPlace, NotThinner
from surershares.keys import Keys, within
from surershares.samplers import Pipeline, Sampler
from surershares.streams import agreement, chances, coins, is_stream
from surershares.thinner import Grid, first_over, further, grid_of
from test_keys import CHAIN, EACH, SHOPS, raised
from test_streams import BARE, DAY, STREAM, by_all_coins, pair

TEXTS = ("", "- 1/3", "# 1/2", "user 1/2; # 2/3", "user 1/2; user 2/3 x; shop 3/4", "- 1/2; city 1/2; user+city 1/7",
         "shop+user 1/1000 a; shop+user 1/3 b; shop+user 1/2 a", "user 1; # 1 b", "city 5/7; user 1/2 a; user 1/2",
         "user 1/4; # 1/3", "- 1/6; # 1/2 a", "user 999/1000", "user 998/999 b; # 999/1000")
PIPELINES = [Pipeline.of(SHOPS, text) for text in TEXTS]
TWOS = list(itertools.product(PIPELINES, repeat=2))


def share(pipeline, keyset):
    return Fraction(*pipeline.share(keyset))


def event_chance(grid, pipeline):
    """The chance of the event, by all sets of records that can be kept."""
    found = Fraction(0)
    for kept, each in chances(pipeline, grid.stream()):
        if len({number // grid.many for number in kept}) == grid.cells():
            found += Fraction(*each)
    return found


def margin_by_hand(grid, pipeline, other):
    """The margin, as the document writes it."""
    keyset, parts = grid.keyset, grid.schema.keysets
    if share(other, keyset) <= share(pipeline, keyset):
        return None
    x = share(other, keyset) / share(pipeline, keyset) - 1
    r = t = Fraction(1)
    for part in parts:
        if part != keyset and within(part, keyset):
            r *= min(Fraction(1), share(other, part) / share(pipeline, part))
        if not within(part, keyset):
            t *= share(other, part)
    last = 1 if keyset == EACH else max(Fraction(0), 1 - grid.cells() / (1 + grid.many * t))
    return (1 + grid.n * x) * r * last


class Further(unittest.TestCase):
    def test_first_over(self):
        for one, other in TWOS:
            over = [keyset for keyset in SHOPS.keysets if share(other, keyset) > share(one, keyset)]
            self.assertEqual(first_over(one, other), over[0] if over else None)
            self.assertIs(first_over(one, other) is None, other <= one)

    def test_further_leads_to_the_other(self):
        for one, other in TWOS:
            if other <= one:
                more = further(one, other)
                self.assertTrue(one >> more == other)
                found = [sampler.keyset for sampler in more.samplers]
                self.assertEqual(found, [keyset for keyset in SHOPS.keysets if share(other, keyset) < share(one, keyset)])
                for sampler in more.samplers:
                    keyset = sampler.keyset
                    self.assertEqual(sampler.rate, pair(share(other, keyset) / share(one, keyset)))
            else:
                self.assertEqual(raised(self, NotThinner, further, one, other), {"given": first_over(one, other)})

    def test_further_keeps_by_the_same_chances(self):
        # Guarantee (b): what is left behind both is left by the chances of the other one.
        for one, other in TWOS:
            if other <= one:
                more = one >> further(one, other)
                self.assertEqual(chances(more, STREAM), chances(other, STREAM))
                if len(coins(more, STREAM[1:])) <= 10:
                    self.assertEqual(by_all_coins(more, STREAM[1:]), by_all_coins(other, STREAM[1:]))

    def test_nothing_to_do(self):
        for one in PIPELINES:
            self.assertEqual(further(one, one).samplers, ())
            self.assertEqual(further(one, one.plain).samplers, ())

    def test_salts(self):
        floor = Pipeline.of(SHOPS, "user 1/100; # 1/100")
        cases = (("", ""), ("user 1/2 a", ""), ("user 1/2 a; # 1/2", "b"), ("user 1/2", "a"), ("user 1/2 b; # 1", "a"),
                 ("user 1; # 1 a; user 1 c", "b"), ("user 1; " + "; ".join(f"user 1 {salt}" for salt in "abcdefghijk"), "l"))
        for text, salt in cases:
            found = further(Pipeline.of(SHOPS, text), floor).samplers
            self.assertEqual([sampler.salt for sampler in found], [salt, salt])
        letters = "abcdefghijklmnopqrstuvwxyz"
        many = ["user 1"] + [f"# 1 {salt}" for salt in letters]
        self.assertEqual(further(Pipeline.of(SHOPS, "; ".join(many)), floor)[0].salt, "aa")
        many = many + [f"# 1 a{letter}" for letter in letters] + ["# 1 bb"]
        self.assertEqual(further(Pipeline.of(SHOPS, "; ".join(many)), floor)[1].salt, "ba")

    def test_the_least_share_would_count_with_a_salt_in_use(self):
        one, other = Pipeline.of(SHOPS, "user 1/2"), Pipeline.of(SHOPS, "user 1/4")
        self.assertEqual(further(one, other).text, "user 1/2 a")
        self.assertFalse(one >> Pipeline.of(SHOPS, "user 1/2") == other)

    def test_mixed_keys(self):
        one, other = Pipeline(SHOPS), Pipeline.of(Keys(SHOPS.names), "user 1/2")
        for call in (first_over, further, grid_of):
            self.assertEqual(raised(self, MixedKeys, call, one, other), {})
            self.assertEqual(raised(self, MixedKeys, call, other, one), {})


class Grids(unittest.TestCase):
    def grids(self):
        for keys in (SHOPS, CHAIN, DAY, BARE, Keys(("a", "b", "c"))):
            for keyset in keys.keysets:
                for n, many in itertools.product((1, 2, 3), (1, 2, 4)):
                    if (keyset != () or n == 1) and (keyset != EACH or many == 1):
                        yield keys, Grid(keys, keyset, n, many)

    def test_what_it_tells(self):
        grid = Grid(SHOPS, ["user", "shop", "user"], 2, 3)
        self.assertEqual((grid.schema, grid.keyset, grid.n, grid.many), (SHOPS, ("city", "shop", "user"), 2, 3))
        self.assertEqual((grid.cells(), grid.size()), (4, 12))
        self.assertEqual([grid.record(place) for place in (0, 2, 3, 11)],
                         [(0, (0, 0, 0)), (2, (0, 0, 0)), (3, (0, 1, 0)), (11, (0, 1, 1))])

    def test_names_outside(self):
        self.assertEqual(Grid(SHOPS, ("city",), 3, 2).stream(),
                         ((0, (0, 0, 0)), (1, (0, 1, 1)), (2, (1, 2, 2)), (3, (1, 3, 3)), (4, (2, 4, 4)), (5, (2, 5, 5))))
        self.assertEqual(Grid(SHOPS, (), 1, 2).stream(), ((0, (0, 0, 0)), (1, (1, 1, 1))))
        self.assertEqual(Grid(SHOPS, EACH, 3, 1).stream(), ((0, (0, 0, 0)), (1, (0, 0, 0)), (2, (0, 0, 0))))

    def test_digits_go_by_the_ascending_tops(self):
        grid = Grid(Keys(("a", "b", "c")), ("c", "a"), 3, 1)
        self.assertEqual([grid.record(place)[1] for place in (0, 1, 3, 5)], [(0, 0, 0), (1, 1, 0), (0, 3, 1), (2, 5, 1)])

    def test_alike_exactly_in_a_cell(self):
        for keys, grid in self.grids():
            if grid.size() > 24:
                continue
            stream = grid.stream()
            self.assertTrue(is_stream(keys, stream))
            self.assertEqual((len(stream), len({number for number, _ in stream})), (grid.size(), grid.size()))
            for one, other in itertools.combinations(stream, 2):
                alike = agreement(keys, one, other)
                if grid.keyset != EACH:
                    self.assertIs(within(grid.keyset, alike), one[0] // grid.many == other[0] // grid.many)
                    self.assertTrue(within(alike, grid.keyset))

    def test_sizes(self):
        for keys, grid in self.grids():
            tops = sum(not any(keys.tells(other, name) for other in grid.keyset) for name in grid.keyset) if grid.keyset != EACH else 1
            self.assertEqual((grid.cells(), grid.size()), (grid.n ** tops, grid.n ** tops * grid.many))

    def test_no_place(self):
        for _, grid in self.grids():
            for place in (-1, grid.size(), grid.size() + 7):
                self.assertEqual(raised(self, NoPlace, grid.record, place), {"place": place})
            self.assertEqual(grid.record(grid.size() - 1)[0], grid.size() - 1)

    def test_no_name(self):
        self.assertEqual(raised(self, NoName, Grid, SHOPS, ("#", "y", "x"), 1, 1), {"name": "y"})

    def test_great_numbers(self):
        n, many = 10 ** 60 + 7, 10 ** 45
        grid = Grid(SHOPS, ("shop", "user"), n, many)
        self.assertEqual((grid.cells(), grid.size()), (n * n, n * n * many))
        cell = 5 + n * (n - 1)
        place = cell * many + 3
        self.assertEqual(grid.record(place), (place, (0, 5, n - 1)))
        self.assertEqual(Grid(SHOPS, ("city",), n, many).record(7 * many + 1), (7 * many + 1, (7, 7 * many + 1, 7 * many + 1)))
        self.assertEqual(raised(self, NoPlace, grid.record, grid.size()), {"place": grid.size()})
        self.assertEqual(Grid(SHOPS, EACH, n, 1).record(n - 1), (n - 1, (0, 0, 0)))

    def test_equal(self):
        grid = Grid(SHOPS, ("user", "city"), 2, 3)
        self.assertTrue(grid == Grid(Keys.of(SHOPS.text), ["city", "user"], 2, 3))
        for other in (Grid(SHOPS, ("user",), 2, 3), Grid(SHOPS, ("user", "city"), 1, 3), Grid(SHOPS, ("user", "city"), 2, 2),
                      Grid(Keys(SHOPS.names), ("user", "city"), 2, 3), None, 2, SHOPS, Pipeline(SHOPS), grid.keyset):
            self.assertIs(grid == other, False)
            self.assertIs(grid != other, True)

    def test_does_not_change(self):
        for name in ("schema", "keyset", "n", "many"):
            with self.assertRaises(AttributeError):
                setattr(Grid(SHOPS, (), 1, 1), name, 5)


class Events(unittest.TestCase):
    def test_chance_by_all_that_can_be_kept(self):
        for names, n, many in (((), 1, 1), ((), 1, 4), (("user",), 1, 3), (("user",), 2, 2), (("user",), 3, 2), (("shop",), 2, 2),
                               (("city",), 2, 3), (("city", "user"), 2, 1), (("shop", "user"), 1, 5), (EACH, 1, 1), (EACH, 4, 1)):
            grid = Grid(SHOPS, names, n, many)
            for pipeline in PIPELINES:
                with self.subTest(names=names, n=n, many=many, pipeline=pipeline.text):
                    self.assertEqual(grid.chance(pipeline), pair(event_chance(grid, pipeline)))

    def test_chance_of_sixty(self):
        pipeline = Pipeline.of(SHOPS, "- 1/2; user 1/3; city+user 1/5; # 1/2")
        # Two users, two shops: 4 cells of 15 records; a city for each user alone.
        wanted = Fraction(1, 2) * Fraction(1, 3) ** 2 * Fraction(1, 5) ** 2 * (1 - Fraction(1, 2) ** 15) ** 4
        self.assertEqual(Grid(SHOPS, ("shop", "user"), 2, 15).chance(pipeline), pair(wanted))
        single = Fraction(1, 2) * Fraction(1, 3) * Fraction(1, 5) * Fraction(1, 2) ** 60
        self.assertEqual(Grid(SHOPS, EACH, 60, 1).chance(pipeline), pair(single))

    def test_chance_mixed_keys(self):
        grid = Grid(SHOPS, ("user",), 2, 2)
        self.assertEqual(raised(self, MixedKeys, grid.chance, Pipeline(Keys(SHOPS.names))), {})

    def test_margin_by_hand(self):
        for names, n, many in (((), 1, 1), ((), 1, 9), (("user",), 1, 3), (("user",), 2, 2), (("city", "user"), 3, 500), (EACH, 3, 1)):
            grid = Grid(SHOPS, names, n, many)
            for one, other in TWOS:
                wanted = margin_by_hand(grid, one, other)
                self.assertEqual(grid.margin(one, other), None if wanted is None else pair(Fraction(wanted)))
                self.assertIs(grid.shows(one, other), wanted is not None and wanted > 1)

    def test_a_cell_too_many_makes_nought(self):
        half, none = Pipeline.of(SHOPS, "user 1/2; # 1/2"), Pipeline.of(SHOPS, "# 1/2")
        # 1 + 2 * 1/2 is just as many as the cells.
        self.assertEqual(Grid(SHOPS, ("user",), 2, 2).margin(half, none), (0, 1))
        self.assertEqual(Grid(SHOPS, ("user",), 2, 1).margin(half, none), (0, 1))
        self.assertEqual(Grid(SHOPS, ("user",), 2, 3).margin(half, none), (3, 5))

    def test_margin_one_shows_nothing(self):
        one, other = Pipeline.of(SHOPS, "- 1/2"), Pipeline(SHOPS)
        # (1 + 1) * (1 - 1 / (1 + 1)) is one.
        grid = Grid(SHOPS, (), 1, 1)
        self.assertEqual((grid.margin(one, other), grid.shows(one, other)), ((1, 1), False))
        self.assertEqual((grid_of(one, other).many, grid_of(one, other).margin(one, other)), (2, (4, 3)))

    def test_what_shows_it_is_so(self):
        for names, n, many in (((), 1, 2), ((), 1, 30), (("user",), 2, 12), (("city",), 1, 40), (("shop",), 3, 20), (EACH, 3, 1)):
            grid = Grid(SHOPS, names, n, many)
            for one, other in TWOS:
                if grid.shows(one, other):
                    self.assertGreater(Fraction(*grid.chance(other)), Fraction(*grid.chance(one)))
                    self.assertFalse(other <= one)

    def test_a_later_rule_makes_the_event_rarer(self):
        for names, n, many in (((), 1, 2), (("user",), 2, 3), (("city", "user"), 2, 5), (EACH, 3, 1)):
            grid = Grid(SHOPS, names, n, many)
            for one, other in TWOS:
                if other <= one:
                    self.assertLessEqual(Fraction(*grid.chance(other)), Fraction(*grid.chance(one)))

    def test_mixed_keys(self):
        one, bare = Pipeline.of(SHOPS, "user 1/2"), Pipeline(Keys(SHOPS.names))
        grid, unlike = Grid(SHOPS, ("user",), 2, 2), Grid(Keys(SHOPS.names), ("user",), 2, 2)
        for call in (grid.margin, grid.shows, unlike.margin, unlike.shows):
            self.assertEqual(raised(self, MixedKeys, call, one, bare), {})
            self.assertEqual(raised(self, MixedKeys, call, bare, one), {})
        for call in (unlike.margin, unlike.shows):
            self.assertEqual(raised(self, MixedKeys, call, one, Pipeline(SHOPS)), {})


class LeastGrids(unittest.TestCase):
    def test_none_exactly_if_it_can_be_had(self):
        for one, other in TWOS:
            self.assertIs(grid_of(one, other) is None, other <= one)

    def test_it_shows_and_is_the_least(self):
        for one, other in TWOS:
            grid = grid_of(one, other)
            if grid is None:
                continue
            with self.subTest(one=one.text, other=other.text):
                self.assertEqual((grid.schema, grid.keyset), (SHOPS, first_over(one, other)))
                self.assertIs(grid.shows(one, other), True)
                self.assertGreater(Fraction(*grid.margin(one, other)), 1)
                if grid.many > 1:
                    self.assertIs(Grid(SHOPS, grid.keyset, grid.n, grid.many - 1).shows(one, other), False)
                if grid.n > 1:
                    # With one value less not even the first two factors are above one.
                    least = Grid(SHOPS, grid.keyset, grid.n - 1, 1 if grid.keyset == EACH else 10 ** 80)
                    self.assertIs(least.shows(one, other), False)
                if grid.keyset in ((), EACH):
                    self.assertEqual(1, grid.n if grid.keyset == () else grid.many)

    def test_small_ones_by_all_that_can_be_kept(self):
        tried = 0
        for one, other in TWOS:
            grid = grid_of(one, other)
            if grid is not None and grid.size() <= 6:
                self.assertGreater(event_chance(grid, other), event_chance(grid, one))
                tried += 1
        self.assertGreater(tried, 10)

    def test_great_grids(self):
        one = Pipeline.of(SHOPS, "user 998/999; user 999/1000 a; - 1; # 1/2; city 1/3")
        other = Pipeline.of(SHOPS, "user 997/998; - 1/1000; city 1/1000; # 1/1000; city+user 1/1000; city+shop 1/1000")
        self.assertEqual(first_over(one, other), ("user",))
        grid = grid_of(one, other)
        x = Fraction(997, 998) / (Fraction(998, 999) * Fraction(999, 1000)) - 1
        self.assertEqual(grid.n, (1000 - 1) // x + 1)
        self.assertGreater(grid.many, 10 ** 12)
        self.assertTrue(grid.shows(one, other))
        self.assertFalse(Grid(SHOPS, ("user",), grid.n, grid.many - 1).shows(one, other))
        self.assertFalse(Grid(SHOPS, ("user",), grid.n - 1, 10 ** 90).shows(one, other))
        last = grid.size() - 1
        self.assertEqual(grid.record(last), (last, (last, last, grid.n - 1)))

    def test_returned_shares_of_any_size(self):
        three = Keys(("a", "b", "c"))
        one = Pipeline.of(three, "; ".join(f"a+b+c 1/1000 {salt}" for salt in "abcdefgh"))
        other = Pipeline(three, [Sampler(three, ("a", "b", "c"), (10 ** 24 + 1, 10 ** 48)), Sampler(three, (), (1, 10 ** 36))])
        grid = grid_of(one, other)
        self.assertEqual((grid.keyset, grid.n), (("a", "b", "c"), 10 ** 24 * (10 ** 36 - 1) + 1))
        self.assertEqual(grid.cells(), grid.n ** 3)
        self.assertTrue(grid.shows(one, other))
        self.assertFalse(Grid(three, grid.keyset, grid.n, grid.many - 1).shows(one, other))

    def test_bare_keys(self):
        one, other = Pipeline.of(BARE, "- 1/2"), Pipeline.of(BARE, "# 1/2")
        self.assertEqual(grid_of(one, other), Grid(BARE, (), 1, 3))
        self.assertEqual(grid_of(other, one), Grid(BARE, EACH, 2, 1))


if __name__ == "__main__":
    unittest.main()
