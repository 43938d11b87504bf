"""[12] Edits of pipelines."""

import itertools
import unittest
from fractions import Fraction

from surershares.edits import edited, effect, fewest_edits, least_rate, needless, trimmed
from surershares.errors import BadKind, BadSalt, BadShare, MixedKeys, NoName, NoPlace
from surershares.keys import Keys, within
from surershares.samplers import Pipeline, Sampler
from surershares.surer import compare, surer_counts, surer_sums
from test_keys import CHAIN, SHOPS, raised
from test_samplers import BAD_SALTS, BAD_SHARES
from test_streams import BARE, DAY, pair

TWO = Keys(("day", "user"))
THREE = Pipeline.of(TWO, "user 1/2; user 1/4; # 1/2")
KINDS = ("all", "sums", "counts")
TEXTS = ("", "user 1/2", "user 1/2; user 1/4; # 1/2", "user 1/2; user 1/2", "user 1/2; user 1/2 a; user 1/3 a", "- 1; user 1",
         "day 1/2; user 1/3; day+user 1/4", "# 1/2; # 1/2 a; # 1/3", "- 1/2; day 2/3 b; # 1/2", "user 1/4; user 1; user 1/2",
         "day+user 1/2; day+user 1/3 a; day+user 1/5 b", "user 1/6")
PIPELINES = [Pipeline.of(TWO, text) for text in TEXTS]
HOLDS = {"all": lambda one, other: other <= one, "sums": surer_sums, "counts": surer_counts}


def texts_of(pipeline):
    return [sampler.text for sampler in pipeline.samplers]


class Edited(unittest.TestCase):
    def test_put(self):
        for k in range(4):
            found = texts_of(edited(THREE, ("put", k, Sampler.of(TWO, "day 1/3 x"))))
            wanted = ["user 1/2", "user 1/4", "# 1/2"]
            wanted.insert(k, "day 1/3 x")
            self.assertEqual(found, wanted)
        self.assertEqual(edited(Pipeline(TWO), ("put", 0, Sampler.of(TWO, "- 1"))).text, "- 1")

    def test_drop(self):
        for k in range(3):
            wanted = ["user 1/2", "user 1/4", "# 1/2"]
            wanted.pop(k)
            self.assertEqual(texts_of(edited(THREE, ("drop", k))), wanted)

    def test_one_thing_else(self):
        one = Pipeline.of(SHOPS, "user 1/2 a; city 1/3; # 1/4 b")
        self.assertEqual(edited(one, ("rate", 0, (2, 3))).text, "user 2/3 a; city 1/3; # 1/4 b")
        self.assertEqual(edited(one, ("rate", 2, (1, 1))).text, "user 1/2 a; city 1/3; # 1 b")
        self.assertEqual(edited(one, ("names", 0, ("shop", "user", "shop"))).text, "city+shop+user 1/2 a; city 1/3; # 1/4 b")
        self.assertEqual(edited(one, ("names", 2, ())).text, "user 1/2 a; city 1/3; - 1/4 b")
        self.assertEqual(edited(one, ("names", 1, ("#", "user"))).text, "user 1/2 a; # 1/3; # 1/4 b")
        self.assertEqual(edited(one, ("salt", 0, "")).text, "user 1/2; city 1/3; # 1/4 b")
        self.assertEqual(edited(one, ("salt", 1, "abcdefgh")).text, "user 1/2 a; city 1/3 abcdefgh; # 1/4 b")
        self.assertEqual(one.text, "user 1/2 a; city 1/3; # 1/4 b")

    def test_no_place(self):
        sampler = Sampler.of(TWO, "day 1/3")
        for k in (-1, 4, 10 ** 30, -4):
            self.assertEqual(raised(self, NoPlace, edited, THREE, ("put", k, sampler)), {"place": k})
        for k, rest in itertools.product((-1, 3, 10 ** 30, -3), (("drop",), ("rate", (2, 4)), ("names", ("x",)), ("salt", "A"))):
            self.assertEqual(raised(self, NoPlace, edited, THREE, (rest[0], k, *rest[1:])), {"place": k})
            self.assertEqual(raised(self, NoPlace, effect, THREE, (rest[0], k, *rest[1:])), {"place": k})
        self.assertEqual(raised(self, NoPlace, edited, Pipeline(TWO), ("drop", 0)), {"place": 0})

    def test_mixed_keys_ahead(self):
        other = Sampler.of(DAY, "day 1/2")
        for k in (0, 3, 4, -1):
            for call in (edited, effect):
                self.assertEqual(raised(self, MixedKeys, call, THREE, ("put", k, other)), {})

    def test_wrong_values(self):
        for call in (edited, effect):
            for given in BAD_SHARES:
                self.assertEqual(raised(self, BadShare, call, THREE, ("rate", 1, given)), {"given": given})
                self.assertEqual(raised(self, BadShare, call, THREE, ["rate", 1, list(given)]), {"given": given})
            for given in BAD_SALTS:
                self.assertEqual(raised(self, BadSalt, call, THREE, ("salt", 0, given)), {"given": given})
            for names, name in ((("x",), "x"), (("#", "y", "x"), "y"), (["city"], "city")):
                self.assertEqual(raised(self, NoName, call, THREE, ("names", 2, names)), {"name": name})


class Effect(unittest.TestCase):
    def edits(self, pipeline):
        keys = pipeline.schema
        for k in range(len(pipeline) + 1):
            yield from [("put", k, Sampler(keys, keyset, (1, 2), salt="a")) for keyset in keys.keysets]
        for k in range(len(pipeline)):
            yield ("drop", k)
            yield from [("rate", k, share) for share in ((1, 1), (1, 2), (1, 5), (2, 3))]
            yield from [("names", k, keyset) for keyset in keys.keysets]
            yield from [("salt", k, salt) for salt in ("", "a", "z")]

    def test_is_what_compare_tells(self):
        for pipeline in PIPELINES:
            for edit in self.edits(pipeline):
                self.assertEqual(effect(pipeline, edit), compare(pipeline, edited(pipeline, edit)))

    def test_what_some_edits_give(self):
        for pipeline in PIPELINES:
            for edit in self.edits(pipeline):
                word, k = edit[:2]
                old = pipeline[k] if word != "put" else None
                if word == "put" or word == "rate" and Fraction(*edit[2]) <= Fraction(*old.rate):
                    self.assertIn(effect(pipeline, edit), ("alike", "all"))
                if word == "drop" or word == "rate" and Fraction(*edit[2]) >= Fraction(*old.rate):
                    self.assertIn(effect(pipeline, edit), ("alike", "other all"))
                if word == "salt" and edit[2] == "z":
                    self.assertIn(effect(pipeline, edit), ("alike", "all"))
                if word == "names" and old.rate != (1, 1) and [each.salt for each in pipeline.samplers].count(old.salt) == 1:
                    if within(old.keyset, edit[2]) and old.keyset != edit[2]:
                        self.assertEqual(effect(pipeline, edit), "other counts")

    def test_more_names(self):
        one = Pipeline.of(CHAIN, "d 1/2; # 1/3 a")
        self.assertEqual([effect(one, ("names", 0, names)) for names in (("c",), ("a",), ("#",), ("d",), ())],
                         ["other counts", "other counts", "other counts", "alike", "counts"])


class Needless(unittest.TestCase):
    def test_by_the_samplers(self):
        for pipeline in PIPELINES:
            found = []
            for k, sampler in enumerate(pipeline.samplers):
                beside = [each.rate for at, each in enumerate(pipeline.samplers)
                          if at != k and (each.salt, each.keyset) == (sampler.salt, sampler.keyset)]
                if sampler.rate == (1, 1) or any(Fraction(*rate) <= Fraction(*sampler.rate) for rate in beside):
                    found.append(k)
            self.assertEqual(needless(pipeline), tuple(found))

    def test_two_that_can_not_both_go(self):
        one = Pipeline.of(TWO, "user 1/2; # 1; user 1/2")
        self.assertEqual((needless(one), trimmed(one).text), ((0, 1, 2), "user 1/2"))
        self.assertEqual((needless(Pipeline(TWO)), trimmed(Pipeline(TWO)).text, len(trimmed(Pipeline(TWO)))), ((), "", 0))

    def test_trimmed(self):
        for pipeline in PIPELINES:
            left = list(pipeline.samplers)
            for sampler in pipeline.samplers:
                rest = list(left)
                at = [place for place, each in enumerate(rest) if each is sampler][0]
                rest.pop(at)
                if Pipeline(TWO, rest) == Pipeline(TWO, left):
                    left = rest
            found = trimmed(pipeline)
            self.assertEqual(texts_of(found), [sampler.text for sampler in left])
            self.assertEqual((found == pipeline, needless(found)), (True, ()))

    def test_the_first_goes(self):
        one = Pipeline.of(TWO, "user 1/2; user 1/3; user 1/3; user 1/2 b; user 1 b")
        self.assertEqual(trimmed(one).text, "user 1/3; user 1/2 b")
        one = Pipeline.of(DAY, "day 1; day 1; - 1")
        self.assertEqual((trimmed(one).text, needless(one)), ("", (0, 1, 2)))


class FewestEdits(unittest.TestCase):
    def wanted(self, pipeline, other):
        """How many the document says: a sum over all KEYSETs."""
        found = 0
        for keyset in pipeline.schema.keysets:
            here, there = Fraction(*pipeline.share(keyset)), Fraction(*other.share(keyset))
            own = [k for k, sampler in enumerate(pipeline.samplers) if sampler.keyset == keyset]
            if there < here:
                found += 1
            elif there > here:
                found += min(many for many in range(len(own) + 1) for part in itertools.combinations(own, many)
                             if Fraction(*self.without(pipeline, part).share(keyset)) >= there)
        return found

    def without(self, pipeline, places):
        return Pipeline(pipeline.schema, [each for k, each in enumerate(pipeline.samplers) if k not in places])

    def check(self, pipeline, other):
        found = fewest_edits(pipeline, other)
        here = pipeline
        for edit in found:
            self.assertIs(type(edit), tuple)
            self.assertIn(edit[0], ("put", "drop", "rate"))
            here = edited(here, edit)
        self.assertEqual(here, other)
        self.assertEqual((type(found), len(found)), (list, self.wanted(pipeline, other)))
        self.assertEqual(fewest_edits(pipeline, other), found)

    def test_all_pairs(self):
        for pipeline, other in itertools.product(PIPELINES, repeat=2):
            self.check(pipeline, other)

    def test_six_samplers(self):
        texts = ("user 1/2; user 1/3; user 1/2 a; user 1/5 a; user 1/7 b; user 1/2 c", "user 1/2 aa; user 1/2 a; user 1/2 b; user 1/2 c; user 1/2 d; user 1/2 e",
                 "user 1/64", "user 1/30", "user 1/210; # 1/1000", "user 1/5; day 1/2", "user 3/4", "- 1/2; day 1/2; user 1/2; day+user 1/2; # 1/2",
                 "# 1/2; # 1/2 a; # 1/2 b; - 2/3; day 5/6; user 1", "user 1/7; user 1/6; user 1/5; user 1/4; user 1/3; user 1/2")
        drawn = [Pipeline.of(TWO, text) for text in texts]
        for pipeline, other in itertools.product(drawn, repeat=2):
            self.check(pipeline, other)

    def test_no_fewer_by_trying(self):
        # With one edit less, drawn from all that could help, nothing is alike to other.
        shares = ((1, 1), (1, 2), (1, 3), (2, 3), (1, 4), (3, 4), (1, 6), (1, 8))
        drawn = [Pipeline.of(DAY, text) for text in ("", "day 1/2", "day 1/2; day 1/2 a", "day 1/2; day 1/3; # 1/2", "- 1/2; # 1/2", "day 1/3 b; day 1/2; day 1/2 a")]
        for pipeline, other in itertools.product(drawn, repeat=2):
            many = len(fewest_edits(pipeline, other))
            self.check(pipeline, other)
            if many == 2:
                edits = [("drop", k) for k in range(len(pipeline))]
                edits += [("rate", k, share) for k in range(len(pipeline)) for share in shares]
                edits += [("put", 0, Sampler(DAY, keyset, share, salt=salt)) for keyset in DAY.keysets for share in shares for salt in ("", "a", "q")]
                self.assertFalse(any(edited(pipeline, edit) == other for edit in edits))

    def test_all_salts_of_the_alphabet(self):
        one = Pipeline(DAY, [Sampler(DAY, ("day",), (1, 2), salt=salt) for salt in ("", "a", "b", "c", "d", "e")])
        self.check(one, Pipeline.of(DAY, "day 1/100; - 1/2; # 1/3"))

    def test_mixed_keys(self):
        self.assertEqual(raised(self, MixedKeys, fewest_edits, THREE, Pipeline(DAY)), {})


class LeastRate(unittest.TestCase):
    def check(self, pipeline, k, other, kind):
        found = least_rate(pipeline, k, other, kind)
        holds = HOLDS[kind]
        if found is None:
            self.assertFalse(holds(edited(pipeline, ("rate", k, (1, 1))), other))
            return
        share = Fraction(*found)
        self.assertTrue(0 < share <= 1)
        self.assertTrue(holds(edited(pipeline, ("rate", k, found)), other))
        self.assertTrue(holds(edited(pipeline, ("rate", k, (1, 1))), other))
        for less in (share * Fraction(999999, 1000000), share / 2):
            self.assertFalse(holds(edited(pipeline, ("rate", k, pair(less))), other))
        for more in ((share + 1) / 2, share + (1 - share) / 1000):
            self.assertTrue(holds(edited(pipeline, ("rate", k, pair(more))), other))

    def test_all_pairs(self):
        for pipeline, other, kind in itertools.product(PIPELINES, PIPELINES, KINDS):
            for k in range(len(pipeline)):
                self.check(pipeline, k, other, kind)

    def test_other_keys(self):
        for keys, texts in ((SHOPS, ("city 1/2; user 1/3", "shop 1/2; # 1/4", "- 1/9", "city+user 1/4; city 1/2 a; shop 3/4", "# 1/20")),
                            (BARE, ("- 1/2", "# 1/3", "- 1/2; # 1/2; # 1/2", "- 1/8; # 1/8")), (CHAIN, ("a 1/2; b 1/2", "d 1/9", "c 1/4; - 1/3", "# 1/30"))):
            drawn = [Pipeline.of(keys, text) for text in texts]
            for pipeline, other, kind in itertools.product(drawn, drawn, KINDS):
                for k in range(len(pipeline)):
                    self.check(pipeline, k, other, kind)

    def test_some(self):
        two, floor = Pipeline.of(TWO, "day 1/2; user 1/2"), Pipeline.of(TWO, "day 1/2; user 1/6")
        self.assertEqual([least_rate(two, 1, floor, kind) for kind in KINDS], [(1, 6), (1, 6), (1, 6)])
        # Beside one with the same SALT and KEYSET no greater share helps.
        self.assertEqual(least_rate(Pipeline.of(TWO, "user 1/2; user 1/8"), 0, floor, "counts"), None)
        self.assertEqual(least_rate(Pipeline.of(TWO, "user 1/2; user 1/6"), 0, Pipeline.of(TWO, "user 1/6"), "all"), (1, 6))
        self.assertEqual(least_rate(Pipeline.of(TWO, "user 1; user 1"), 0, Pipeline(TWO), "all"), (1, 1))
        # For counts a look at more names makes up for a share that is too small elsewhere.
        self.assertEqual(least_rate(Pipeline.of(TWO, "day+user 1/2; # 1/2"), 1, Pipeline.of(TWO, "user 1/12"), "counts"), (1, 6))

    def test_great_shares(self):
        other = Pipeline.of(TWO, "; ".join(f"user 1/1000 {salt}" for salt in "abcdef"))
        pipeline = Pipeline.of(TWO, "user 1/2; day+user 999/1000")
        self.assertEqual(least_rate(pipeline, 0, other, "all"), None)
        self.assertEqual(least_rate(pipeline, 0, other, "counts"), (1, 999 * 10 ** 15))

    def test_errors_in_order(self):
        floor = Pipeline(TWO)
        self.assertEqual(raised(self, MixedKeys, least_rate, THREE, 9, Pipeline(DAY), "x"), {})
        for k in (-1, 3, 10 ** 20):
            self.assertEqual(raised(self, NoPlace, least_rate, THREE, k, floor, "x"), {"place": k})
        for given in ("", "All", "alike", "other all", "sum", "counts "):
            self.assertEqual(raised(self, BadKind, least_rate, THREE, 0, floor, given), {"given": given})


if __name__ == "__main__":
    unittest.main()
