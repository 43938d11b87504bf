"""[2] and [3]: what holds for all functions and classes."""

import unittest

from surershares.errors import BadShare, MixedKeys
from surershares.keys import Keys, below, common, is_keyset, joint, keyset_of, keyset_text, tops, within
from surershares.samplers import Pipeline, Sampler

KEYS = Keys(("city", "shop", "user"), (("shop", "city"),))


class ListsForTuples(unittest.TestCase):
    def test_keys(self):
        self.assertEqual(Keys(["user", "shop", "city"], [["shop", "city"]]), KEYS)
        self.assertEqual(Keys(["user", "shop", "city"], [["shop", "city"]]).pairs, (("shop", "city"),))
        self.assertEqual(KEYS.closed(["user", "shop"]), ("city", "shop", "user"))
        self.assertEqual(KEYS.closed(["#", "user"]), ("#",))

    def test_keysets(self):
        self.assertIs(within(["#"], ["#"]), True)
        self.assertIs(within(["city"], ["#"]), True)
        self.assertIs(within(["#"], ["city"]), False)
        self.assertIs(within(["city"], ("city", "user")), True)
        self.assertEqual((joint(["#"], ["city"]), joint(["city"], ["#"])), (("#",), ("#",)))
        self.assertEqual((joint(["user"], ["city"]), joint([], [])), (("city", "user"), ()))
        self.assertEqual((common(["#"], ["city"]), common(["city"], ["#"])), (("city",), ("city",)))
        self.assertEqual((common(["#"], ["#"]), common(["city", "user"], ["user"])), (("#",), ("user",)))
        self.assertEqual(below(KEYS, ["city"]), [(), ("city",)])
        self.assertEqual(below(KEYS, ["#"]), list(KEYS.keysets))
        self.assertEqual((tops(KEYS, ["#"]), tops(KEYS, ["city", "shop"]), tops(KEYS, [])), (("#",), ("shop",), ()))
        self.assertEqual((keyset_text([]), keyset_text(["#"]), keyset_text(["a", "b"])), ("-", "#", "a+b"))

    def test_a_thing_is_taken_as_it_is(self):
        self.assertIs(is_keyset(KEYS, ("city",)), True)
        self.assertIs(is_keyset(KEYS, ["city"]), False)

    def test_samplers(self):
        sampler = Sampler(KEYS, ["user"], [1, 2], salt="a")
        self.assertEqual((sampler.rate, sampler.keyset), ((1, 2), ("user",)))
        self.assertEqual(sampler.at([1, 3]).rate, (1, 3))
        pipeline = Pipeline(KEYS, [sampler])
        self.assertEqual(pipeline.samplers, (sampler,))
        self.assertEqual(Pipeline(KEYS, (sampler,)), pipeline)
        self.assertEqual((pipeline.share(["user"]), pipeline.share(["#"]), pipeline.share([])), ((1, 2), (1, 1), (1, 1)))
        self.assertEqual((pipeline.together(["#"]), pipeline.together(["city"])), ((1, 2), (1, 1)))
        self.assertEqual((pipeline.squares(["user"]), pipeline.squares(["#"])), ((1, 1), (0, 1)))
        self.assertIs(["user"] in pipeline, True)
        self.assertIs(["#"] in pipeline, False)

    def test_an_error_has_a_tuple(self):
        with self.assertRaises(BadShare) as caught:
            Sampler(KEYS, [], [4, 2])
        self.assertEqual(caught.exception.given, (4, 2))


class ByNames(unittest.TestCase):
    def test_keys(self):
        self.assertEqual(Keys(tells=(("shop", "city"),), names=("user", "shop", "city")), KEYS)
        self.assertEqual(Keys.of(text=KEYS.text), KEYS)
        self.assertIs(KEYS.tells(other="city", one="shop"), True)
        self.assertEqual(KEYS.told(name="shop"), ("city",))
        self.assertEqual(KEYS.closed(names=("shop",)), ("city", "shop"))

    def test_keysets(self):
        self.assertIs(is_keyset(thing=("city",), keys=KEYS), True)
        self.assertIs(within(other=("city",), one=()), True)
        self.assertEqual(joint(other=("city",), one=()), ("city",))
        self.assertEqual(common(other=("city",), one=()), ())
        self.assertEqual(below(keyset=(), keys=KEYS), [()])
        self.assertEqual(tops(keyset=("city", "shop"), keys=KEYS), ("shop",))
        self.assertEqual(keyset_text(keyset=("city",)), "city")
        self.assertEqual(keyset_of(text="shop", keys=KEYS), ("city", "shop"))

    def test_samplers(self):
        sampler = Sampler(salt="a", rate=(1, 2), names=("user",), keys=KEYS)
        self.assertEqual(Sampler.of(text="user 1/2 a", keys=KEYS), sampler)
        self.assertEqual(sampler.at(rate=(1, 3)).text, "user 1/3 a")
        pipeline = Pipeline(samplers=(sampler,), keys=KEYS)
        self.assertEqual(Pipeline.of(text="user 1/2 a", keys=KEYS), pipeline)
        self.assertEqual(pipeline.share(keyset=("user",)), (1, 2))
        self.assertEqual(pipeline.together(keyset=("user",)), (1, 2))
        self.assertEqual(pipeline.squares(keyset=("user",)), (1, 1))
        self.assertEqual(pipeline.salted(word="b").text, "user 1/2 ab")


class Copies(unittest.TestCase):
    def test_keys_copy(self):
        names, tells = ["b", "a"], [["a", "b"]]
        keys = Keys(names, tells)
        self.assertEqual((names, tells), (["b", "a"], [["a", "b"]]))
        names.append("c")
        tells[0][1] = "c"
        tells.append(["c", "a"])
        self.assertEqual((keys.names, keys.pairs, keys.told("a")), (("a", "b"), (("a", "b"),), ("b",)))

    def test_a_sampler_copies(self):
        names, rate = ["user"], [1, 2]
        sampler = Sampler(KEYS, names, rate)
        names[0], rate[0] = "city", 3
        self.assertEqual((sampler.keyset, sampler.rate), (("user",), (1, 2)))

    def test_a_pipeline_copies(self):
        samplers = [Sampler.of(KEYS, "user 1/2")]
        pipeline = Pipeline(KEYS, samplers)
        samplers.append(Sampler.of(KEYS, "# 1/2"))
        self.assertEqual((len(pipeline), pipeline.text, pipeline.share(("#",))), (1, "user 1/2", (1, 1)))

    def test_arguments_stay(self):
        names = ["user", "shop", "user"]
        KEYS.closed(names)
        self.assertEqual(names, ["user", "shop", "user"])
        keyset, other = ["city", "user"], ["city", "shop"]
        for call in (within, joint, common):
            call(keyset, other)
        below(KEYS, keyset)
        tops(KEYS, keyset)
        self.assertEqual((keyset, other), (["city", "user"], ["city", "shop"]))

    def test_operators_change_nothing(self):
        one, other = Pipeline.of(KEYS, "user 1/2; # 1/2"), Pipeline.of(KEYS, "user 1/3")
        (one & other, one | other, one >> other, one <= other, one < other, one == other, one.plain, one.salted("a"))
        self.assertEqual((one.text, other.text), ("user 1/2; # 1/2", "user 1/3"))

    def test_returned_lists_are_new(self):
        found = below(KEYS, ("city",))
        found.append("mine")
        self.assertEqual(below(KEYS, ("city",)), [(), ("city",)])


class Kinds(unittest.TestCase):
    def test_several_results_are_tuples_where_a_tuple_is_named(self):
        pipeline = Pipeline.of(KEYS, "user 1/2")
        for found in (KEYS.names, KEYS.pairs, KEYS.pairs[0], KEYS.keysets, KEYS.told("shop"), KEYS.closed(["user"]),
                      joint([], []), common([], []), tops(KEYS, ["city"]), pipeline.samplers, pipeline.share([]),
                      pipeline.together([]), pipeline.squares([]), pipeline[0].rate, pipeline[0].keyset):
            self.assertIs(type(found), tuple)
        self.assertIs(type(below(KEYS, [])), list)

    def test_truths_are_truths(self):
        one = Pipeline.of(KEYS, "user 1/2")
        for found in (KEYS == KEYS, KEYS.tells("shop", "city"), "city" in KEYS, within((), ()), is_keyset(KEYS, ()),
                      one == one, one <= one, one < one, () in one, bool(one), one[0] == one[0]):
            self.assertIs(type(found), bool)

    def test_equals_nothing_else(self):
        things = [KEYS, Sampler.of(KEYS, "user 1/2"), Pipeline.of(KEYS, "user 1/2"), None, 1, "user 1/2", ("user",)]
        for place, one in enumerate(things[:3]):
            for other in things[:place] + things[place + 1:]:
                self.assertIs(one == other, False)
                self.assertIs(other != one, True)


class Bounds(unittest.TestCase):
    def test_returned_fractions_may_be_passed_in_again(self):
        pipeline = Pipeline.of(KEYS, "; ".join([f"user 1/1000 {salt}" for salt in "abcdefghijkl"]))
        share = pipeline.share(("user",))
        self.assertEqual(share, (1, 10 ** 36))
        self.assertEqual(Sampler(KEYS, ("user",), share).text, f"user 1/{10 ** 36}")
        self.assertEqual(pipeline.plain, pipeline)
        self.assertEqual(Pipeline.of(KEYS, pipeline.plain.text), pipeline)

    def test_long_texts(self):
        blanks = " " * 400
        line = f"{blanks}shop{blanks} tells city"
        self.assertEqual(Keys.of("\n".join([line] * 59 + ["user"])), KEYS)
        self.assertEqual(Pipeline.of(KEYS, f"{blanks}user{blanks}1/2;# 1/2{blanks}").text, "user 1/2; # 1/2")

    def test_somewhat_beyond(self):
        five = Keys(("a", "b", "c", "d", "e"), (("a", "e"),))
        self.assertEqual(len(five.keysets), 25)
        many = Pipeline.of(five, "; ".join(["a 1/2"] * 20))
        self.assertEqual((len(many), many.share(("a", "e"))), (20, (1, 2)))

    def test_mixed_keys_go_ahead(self):
        other = Keys(("city",))
        with self.assertRaises(MixedKeys):
            Pipeline(KEYS, [Sampler.of(other, "city 1/2")])
        with self.assertRaises(MixedKeys):
            Pipeline(KEYS) >> Pipeline(other)


if __name__ == "__main__":
    unittest.main()
