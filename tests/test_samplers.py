"""[5] Samplers and Pipelines."""

import itertools
import unittest
from fractions import Fraction

from surershares.errors import BadSalt, BadSampler, BadShare, MixedKeys, NoName, NoPlace
from surershares.keys import Keys, within
from surershares.samplers import Pipeline, Sampler
from test_keys import CHAIN, EACH, SHOPS, raised

BAD_SHARES = ((2, 4), (0, 1), (0, 0), (1, 0), (2, 1), (3, 2), (-1, 2), (1, -2), (-1, -2), (2, 2), (0, 5), (-1, -1))
BAD_SALTS = ("A", "a1", "a b", " ", "-", "abcdefghi", "a\n", "\u00e4")
TEXTS = ("", "- 1/3", "# 1/2", "user 1/2; # 2/3", "user 1/2; user 1/2 x; shop 3/4; # 1/5 b", "- 1/2; city 1/2; user+city 1/7",
         "shop+user 1/1000 a; shop+user 1/3 b; shop+user 1/2 a", "user 1; # 1 b", "city 5/7; city+user 1/2; shop 2/3; # 1/2")


def fraction(pair):
    return Fraction(*pair)


def pipelines():
    return [Pipeline.of(SHOPS, text) for text in TEXTS]


class Samplers(unittest.TestCase):
    def test_what_it_tells(self):
        sampler = Sampler(SHOPS, ("user", "city", "user"), (3, 7), salt="x")
        self.assertEqual((sampler.keyset, sampler.rate, sampler.salt), (("city", "user"), (3, 7), "x"))
        self.assertEqual(sampler.schema, SHOPS)
        self.assertEqual(sampler.text, "city+user 3/7 x")

    def test_texts(self):
        self.assertEqual(Sampler(SHOPS, (), (1, 1)).text, "- 1")
        self.assertEqual(Sampler(SHOPS, ("#", "user"), (1, 1000)).text, "# 1/1000")
        self.assertEqual(Sampler(SHOPS, ("shop",), (1, 1), salt="abcdefgh").text, "city+shop 1 abcdefgh")

    def test_wrong_shares(self):
        for given in BAD_SHARES:
            with self.subTest(given=given):
                self.assertEqual(raised(self, BadShare, Sampler, SHOPS, (), given), {"given": given})
                self.assertEqual(raised(self, BadShare, Sampler(SHOPS, (), (1, 2)).at, list(given)), {"given": given})

    def test_wrong_salts(self):
        for given in BAD_SALTS:
            with self.subTest(given=given):
                self.assertEqual(raised(self, BadSalt, Sampler, SHOPS, (), (1, 2), salt=given), {"given": given})

    def test_order_of_the_checks(self):
        self.assertEqual(raised(self, NoName, Sampler, SHOPS, ("#", "x"), (2, 4), salt="A"), {"name": "x"})
        self.assertEqual(raised(self, BadShare, Sampler, SHOPS, ("#",), [2, 4], salt="A"), {"given": (2, 4)})

    def test_salt_by_name_alone(self):
        with self.assertRaises(TypeError):
            Sampler(SHOPS, (), (1, 2), "a")

    def test_equal(self):
        one = Sampler(SHOPS, ("shop",), (1, 2), salt="a")
        self.assertTrue(one == Sampler(Keys.of(SHOPS.text), ("shop", "city"), [1, 2], salt="a"))
        others = (Sampler(SHOPS, ("city",), (1, 2), salt="a"), Sampler(SHOPS, ("shop",), (1, 3), salt="a"),
                  Sampler(SHOPS, ("shop",), (1, 2)), Sampler(Keys(("shop", "city")), ("shop", "city"), (1, 2), salt="a"),
                  one.text, None, SHOPS, Pipeline(SHOPS, [one]))
        for other in others:
            self.assertIs(one == other, False)
            self.assertIs(one != other, True)

    def test_at(self):
        one = Sampler(SHOPS, ("#",), (1, 2), salt="a")
        self.assertEqual(one.at((1, 3)), Sampler(SHOPS, ("#",), (1, 3), salt="a"))
        self.assertEqual(one.rate, (1, 2))

    def test_does_not_change(self):
        for name in ("schema", "keyset", "rate", "salt", "text"):
            with self.assertRaises(AttributeError):
                setattr(Sampler(SHOPS, (), (1, 2)), name, ())

    def test_of(self):
        self.assertEqual(Sampler.of(SHOPS, "user 1"), Sampler(SHOPS, ("user",), (1, 1)))
        self.assertEqual(Sampler.of(SHOPS, "   user+shop+user    11/20   z  "), Sampler(SHOPS, ("user", "shop"), (11, 20), salt="z"))
        self.assertEqual(Sampler.of(SHOPS, "- 1/2"), Sampler(SHOPS, (), (1, 2)))
        self.assertEqual(Sampler.of(SHOPS, "# 1/2 a"), Sampler(SHOPS, EACH, (1, 2), salt="a"))
        for keyset, rate, salt in itertools.product(SHOPS.keysets, ((1, 1), (9, 10)), ("", "a", "abcdefgh")):
            sampler = Sampler(SHOPS, keyset, rate, salt=salt)
            self.assertEqual(Sampler.of(SHOPS, sampler.text), sampler)

    def test_not_so_written(self):
        bad = ("", " ", "user", "user ", "1/2", "user 1/1", "user 2/4", "user 0", "user 0/1", "user 3/2", "user 2", "user 1/0",
               "user 01/2", "user 1/02", "user +1/2", "user -1/2", "user 1/-2", "user 1/", "user /2", "user /", "user 1 / 2",
               "user 1//2", "user 1/2/3", "user 1_0/11", "user 0.5", "user 1/2 a b", "user 1/2 A", "user 1/2 abcdefghi",
               "user 1/2 a1", "user\t1/2", "user 1/2\n", "\nuser 1/2", "user 1/2 \t", "user+ 1/2", "USER 1/2", "user+# 1/2",
               "abcdefghi 1/2", "user 1/2;", "user \u0661/2", "user 1/\u00b2", "user user 1/2")
        for text in bad:
            with self.subTest(text=text):
                self.assertEqual(raised(self, BadSampler, Sampler.of, SHOPS, text), {"given": text})

    def test_not_so_written_goes_ahead_of_the_name(self):
        self.assertEqual(raised(self, BadSampler, Sampler.of, SHOPS, "x 2/4"), {"given": "x 2/4"})
        self.assertEqual(raised(self, NoName, Sampler.of, SHOPS, "user+y+x 1/2"), {"name": "y"})


class Pipelines(unittest.TestCase):
    def test_without_samplers(self):
        none = Pipeline(SHOPS)
        self.assertEqual((none.samplers, none.text, len(none), bool(none)), ((), "", 0, False))
        self.assertEqual(none, none.plain)
        for keyset in SHOPS.keysets:
            self.assertEqual((none.share(keyset), none.together(keyset)), ((1, 1), (1, 1)))
            self.assertEqual(none.squares(keyset), (0, 1) if keyset else (1, 1))
            self.assertNotIn(keyset, none)

    def test_what_it_tells(self):
        one, two = Sampler.of(SHOPS, "user 1/2 a"), Sampler.of(SHOPS, "- 1/3")
        pipeline = Pipeline(SHOPS, [one, two, one])
        self.assertEqual(pipeline.schema, SHOPS)
        self.assertEqual(pipeline.samplers, (one, two, one))
        self.assertEqual(pipeline.text, "user 1/2 a; - 1/3; user 1/2 a")
        self.assertEqual((len(pipeline), bool(pipeline), pipeline[0], pipeline[1], pipeline[2]), (3, True, one, two, one))

    def test_a_sampler_with_the_share_one_is_a_sampler(self):
        pipeline = Pipeline.of(SHOPS, "user 1")
        self.assertEqual((len(pipeline), bool(pipeline), pipeline.text, ("user",) in pipeline), (1, True, "user 1", False))
        self.assertEqual((pipeline.plain.text, pipeline == Pipeline(SHOPS)), ("", True))

    def test_no_place(self):
        pipeline = Pipeline.of(SHOPS, "user 1/2; # 1/2")
        for k in (-1, -2, 2, 10 ** 6):
            self.assertEqual(raised(self, NoPlace, lambda: pipeline[k]), {"place": k})
        self.assertEqual(raised(self, NoPlace, lambda: Pipeline(SHOPS)[0]), {"place": 0})

    def test_can_not_be_gone_through(self):
        for pipeline in pipelines():
            for way in (list, iter, tuple, set):
                with self.assertRaises(TypeError):
                    way(pipeline)

    def test_does_not_change(self):
        for name in ("schema", "samplers", "text", "plain"):
            with self.assertRaises(AttributeError):
                setattr(Pipeline(SHOPS), name, ())

    def test_mixed_keys(self):
        bare = Sampler.of(Keys(("city", "shop", "user")), "user 1/2")
        fine = Sampler.of(Keys.of(SHOPS.text), "user 1/2")
        self.assertEqual(Pipeline(SHOPS, [fine]).samplers, (fine,))
        self.assertEqual(raised(self, MixedKeys, Pipeline, SHOPS, [fine, bare]), {})
        one, other = Pipeline(SHOPS), Pipeline(CHAIN)
        calls = (lambda: one <= other, lambda: one < other, lambda: one >= other, lambda: one > other,
                 lambda: one & other, lambda: one | other, lambda: one >> other)
        for call in calls:
            self.assertEqual(raised(self, MixedKeys, call), {})
        self.assertIs(one == other, False)
        self.assertIs(one != other, True)

    def test_shares(self):
        pipeline = Pipeline.of(SHOPS, "user 1/2; user 1/4; user 1/3; user 1/2 x; user 2/5 x; user 1 y; user+city 1/9; # 2/3")
        self.assertEqual(pipeline.share(("user",)), (1, 10))
        self.assertEqual(pipeline.share(("city", "user")), (1, 9))
        self.assertEqual(pipeline.share(EACH), (2, 3))
        self.assertEqual(pipeline.share(()), (1, 1))
        self.assertEqual(pipeline.share(("city", "shop", "user")), (1, 1))

    def test_the_same_keyset_and_salt_twice(self):
        self.assertEqual(Pipeline.of(SHOPS, "user 1/2; user 1/2").share(("user",)), (1, 2))
        self.assertEqual(Pipeline.of(SHOPS, "user 1/4; user 1/2").share(("user",)), (1, 4))
        self.assertEqual(Pipeline.of(SHOPS, "user 1/4; user 1/2 a").share(("user",)), (1, 8))
        self.assertEqual(Pipeline.of(SHOPS, "shop 1/4 a; city+shop 1/2 a").share(("city", "shop")), (1, 4))

    def test_shares_against_a_count_by_hand(self):
        for pipeline in pipelines():
            for keyset in SHOPS.keysets:
                rates = {}
                for sampler in pipeline.samplers:
                    if sampler.keyset == keyset:
                        rates.setdefault(sampler.salt, []).append(fraction(sampler.rate))
                wanted = Fraction(1)
                for each in rates.values():
                    wanted *= min(each)
                self.assertEqual(pipeline.share(keyset), (wanted.numerator, wanted.denominator))
                self.assertIs(keyset in pipeline, wanted < 1)

    def test_together_and_squares(self):
        for pipeline in pipelines():
            for keyset in SHOPS.keysets:
                under = [each for each in SHOPS.keysets if within(each, keyset)]
                wanted = Fraction(1)
                for each in under:
                    wanted *= fraction(pipeline.share(each))
                self.assertEqual(pipeline.together(keyset), (wanted.numerator, wanted.denominator))
                self.assertEqual(sum(fraction(pipeline.squares(each)) for each in under), 1 / wanted)
                n, d = pipeline.squares(keyset)
                self.assertGreaterEqual(n, 0)
                self.assertEqual((Fraction(n, d).numerator, Fraction(n, d).denominator), (n, d))

    def test_chance_of_two_records_by_their_numbers(self):
        for pipeline, alike in itertools.product(pipelines(), SHOPS.keysets):
            least = {}
            for sampler in pipeline.samplers:
                place = (sampler.keyset, sampler.salt)
                least[place] = min(least.get(place, 1), fraction(sampler.rate))
            both = Fraction(1)
            for (keyset, _), rate in least.items():
                both *= rate if within(keyset, alike) else rate * rate
            single = fraction(pipeline.together(EACH))
            self.assertEqual(both, single * single / fraction(pipeline.together(alike)))

    def test_plain(self):
        pipeline = Pipeline.of(SHOPS, "# 1/2 b; user 1/2 a; - 1/3 z; user 1/2; city+user 1; shop+user 1/2 a")
        self.assertEqual(pipeline.plain.text, "- 1/3; user 1/4; city+shop+user 1/2; # 1/2")
        for each in pipelines():
            self.assertEqual(each.plain, each)
            self.assertEqual(each.plain.plain.text, each.plain.text)
            self.assertEqual({sampler.salt for sampler in each.plain.samplers} - {""}, set())
            self.assertNotIn((1, 1), [sampler.rate for sampler in each.plain.samplers])

    def test_equal_by_the_shares(self):
        one = Pipeline.of(SHOPS, "user 1/4; # 1/2")
        for text in ("# 1/2; user 1/4", "user 1/2; user 1/2 a; # 1/2 b; # 2/3 b", "user 1/4; # 1/2; shop 1"):
            self.assertTrue(one == Pipeline.of(SHOPS, text))
            self.assertFalse(one != Pipeline.of(SHOPS, text))
        for text in ("user 1/4", "user 1/4; # 1/3", "user 1/2; # 1/2", "city+user 1/4; # 1/2", "user 1/4; # 1/2; - 1/2"):
            self.assertFalse(one == Pipeline.of(SHOPS, text))
        for other in (None, one.text, one.samplers, SHOPS, one[0], 0, Pipeline.of(Keys(("user",)), "user 1/4; # 1/2")):
            self.assertIs(one == other, False)
            self.assertIs(one != other, True)

    def test_thinner(self):
        for one, other in itertools.product(pipelines(), repeat=2):
            shares = [(fraction(one.share(keyset)), fraction(other.share(keyset))) for keyset in SHOPS.keysets]
            self.assertIs(one <= other, all(low <= high for low, high in shares))
            self.assertIs(one < other, all(low <= high for low, high in shares) and one != other)
            self.assertIs(one >= other, other <= one)

    def test_and_or(self):
        for one, other in itertools.product(pipelines(), repeat=2):
            for found, pick in ((one & other, min), (one | other, max)):
                for keyset in SHOPS.keysets:
                    pair = (fraction(one.share(keyset)), fraction(other.share(keyset)))
                    self.assertEqual(fraction(found.share(keyset)), pick(pair))
                self.assertEqual(found.text, found.plain.text)
        self.assertEqual((Pipeline(SHOPS) & Pipeline(SHOPS)).text, "")

    def test_behind_one_another(self):
        one, other = Pipeline.of(SHOPS, "user 1/2 a; # 1/3"), Pipeline.of(SHOPS, "- 1/2; user 1/4 a")
        self.assertEqual((one >> other).text, "user 1/2 a; # 1/3; - 1/2; user 1/4 a")
        self.assertEqual((other >> one).text, "- 1/2; user 1/4 a; user 1/2 a; # 1/3")
        self.assertEqual((one >> other).share(("user",)), (1, 4))
        self.assertEqual((one >> Pipeline(SHOPS)).samplers, one.samplers)

    def test_salted(self):
        one = Pipeline.of(SHOPS, "user 1/2 a; # 1/3; user 1/4 b")
        self.assertEqual(one.salted("xy").text, "user 1/2 axy; # 1/3 xy; user 1/4 bxy")
        self.assertEqual(one.salted("").samplers, one.samplers)
        self.assertEqual(one.text, "user 1/2 a; # 1/3; user 1/4 b")
        joined = one >> one.salted("x")
        for keyset in SHOPS.keysets:
            self.assertEqual(fraction(joined.share(keyset)), fraction(one.share(keyset)) ** 2)

    def test_wrongly_salted(self):
        one = Pipeline.of(SHOPS, "user 1/2; # 1/3 abc; user 1/4 b")
        self.assertEqual(raised(self, BadSalt, one.salted, "A"), {"given": "A"})
        self.assertEqual(raised(self, BadSalt, one.salted, "abcdef"), {"given": "abcabcdef"})
        self.assertEqual(one.salted("abcde")[1].salt, "abcabcde")
        self.assertEqual(Pipeline(SHOPS).salted("A b!").samplers, ())

    def test_of(self):
        for text in ("", " ", "     "):
            self.assertEqual(Pipeline.of(SHOPS, text).samplers, ())
        pipeline = Pipeline.of(SHOPS, "  shop+user 1/2   x ;# 1/3;- 1")
        self.assertEqual(pipeline.text, "city+shop+user 1/2 x; # 1/3; - 1")
        for each in pipelines():
            self.assertEqual(Pipeline.of(SHOPS, each.text).samplers, each.samplers)
        self.assertEqual(len(Pipeline.of(SHOPS, ";".join(["user 1/2"] * 12))), 12)

    def test_of_not_so_written(self):
        bad = ((";", ""), ("user 1/2;", ""), ("; user 1/2", ""), ("user 1/2;  ; # 1/2", "  "), ("user 1/2;; # 1/2", ""),
               ("user 1/2; # 2/4 ;x", " # 2/4 "), ("x 1/2; user", " user"), ("\n", "\n"), ("user 1/2, # 1/2", "user 1/2, # 1/2"),
               ("user 1/2 a b; y", "user 1/2 a b"), ("x 1/2; y 1/2; user 1/1 ", " user 1/1 "))
        for text, given in bad:
            with self.subTest(text=text):
                self.assertEqual(raised(self, BadSampler, Pipeline.of, SHOPS, text), {"given": given})

    def test_of_without_the_name(self):
        self.assertEqual(raised(self, NoName, Pipeline.of, SHOPS, "user 1/2; user+y+x 1/2; z 1/2"), {"name": "y"})


if __name__ == "__main__":
    unittest.main()
