"""[4] Keys and KEYSETs."""

import itertools
import unittest

from surershares.errors import BadKeyset, BadLine, NoName, Ringed
from surershares.keys import (
    Keys, below, common, is_keyset, joint, keyset_of, keyset_text, tops, within,
)
from surershares.samplers import Pipeline, Sampler

SHOPS = Keys(("user", "shop", "city"), (("shop", "city"),))
CHAIN = Keys(("d", "c", "b", "a"), (("c", "d"), ("a", "b"), ("b", "c")))
EACH = ("#",)


def raised(case, kind, call, *values, **named):
    """The attributes of the error of this class that a call raises."""
    with case.assertRaises(kind) as caught:
        call(*values, **named)
    case.assertIs(type(caught.exception), kind)
    return vars(caught.exception)


def reach(names, tells, name):
    """What a name tells, found by a search from it."""
    found, waiting = set(), [name]
    while waiting:
        here = waiting.pop()
        for teller, told in tells:
            if teller == here and told not in found:
                found.add(told)
                waiting.append(told)
    return found


def all_tellings(names):
    pairs = list(itertools.permutations(names, 2))
    for many in range(len(pairs) + 1):
        yield from itertools.combinations(pairs, many)


class Making(unittest.TestCase):
    def test_names_are_a_set(self):
        self.assertEqual(Keys(("b", "a", "b", "a")).names, ("a", "b"))
        self.assertEqual(Keys(("b", "a", "b")), Keys(("a", "b")))

    def test_no_names(self):
        none = Keys(())
        self.assertEqual((none.names, none.pairs, none.text, len(none)), ((), (), "", 0))
        self.assertEqual(none.keysets, ((), EACH))
        self.assertEqual(none.closed(()), ())
        self.assertEqual(none.closed(("#",)), EACH)

    def test_one_name(self):
        one = Keys(("day",))
        self.assertEqual((one.names, one.pairs, one.text, len(one)), (("day",), (), "day", 1))
        self.assertEqual(one.keysets, ((), ("day",), EACH))
        self.assertFalse(one.tells("day", "day"))

    def test_four_names(self):
        four = Keys(("a", "b", "c", "d"))
        self.assertEqual(len(four.keysets), 17)
        self.assertEqual(four.keysets[:7], ((), ("a",), ("b",), ("c",), ("d",), ("a", "b"), ("a", "c")))
        self.assertEqual(four.keysets[-3:], (("b", "c", "d"), ("a", "b", "c", "d"), EACH))

    def test_tellings_that_follow(self):
        wanted = (("a", "b"), ("a", "c"), ("a", "d"), ("b", "c"), ("b", "d"), ("c", "d"))
        self.assertEqual(CHAIN.pairs, wanted)
        self.assertEqual(CHAIN.told("a"), ("b", "c", "d"))
        self.assertEqual(CHAIN.told("d"), ())
        self.assertEqual(CHAIN.text, "\n".join(["a", "b", "c", "d"] + [f"{one} tells {other}" for one, other in wanted]))
        self.assertEqual(CHAIN.keysets, ((), ("d",), ("c", "d"), ("b", "c", "d"), ("a", "b", "c", "d"), EACH))
        self.assertEqual(Keys(CHAIN.names, wanted), CHAIN)

    def test_same_telling_twice(self):
        self.assertEqual(Keys(("a", "b"), (("a", "b"), ("a", "b"))).pairs, (("a", "b"),))

    def test_all_tellings_of_three_names(self):
        names = ("a", "b", "c")
        for tells in all_tellings(names):
            told = {name: reach(names, tells, name) for name in names}
            ring = tuple(name for name in names if name in told[name])
            with self.subTest(tells=tells):
                if ring:
                    self.assertEqual(raised(self, Ringed, Keys, names, tells), {"ring": ring})
                    continue
                keys = Keys(names, tells)
                self.assertEqual(keys.pairs, tuple((one, other) for one in names for other in sorted(told[one])))
                for one, other in itertools.product(names, names):
                    self.assertIs(keys.tells(one, other), other in told[one])
                parts = [part for many in range(4) for part in itertools.combinations(names, many)]
                wanted = [part for part in parts if all(told[name] <= set(part) for name in part)]
                self.assertEqual(keys.keysets, (*wanted, EACH))
                for part in parts:
                    least = min([each for each in wanted if set(part) <= set(each)], key=len)
                    self.assertEqual(keys.closed(part), least)

    def test_no_such_name(self):
        self.assertEqual(raised(self, NoName, Keys, ("a",), (("a", "b"),)), {"name": "b"})
        self.assertEqual(raised(self, NoName, Keys, ("a",), (("y", "x"), ("b", "a"))), {"name": "y"})
        self.assertEqual(raised(self, NoName, Keys, ("a",), (("a", "#"),)), {"name": "#"})

    def test_rings(self):
        self.assertEqual(raised(self, Ringed, Keys, ("a",), (("a", "a"),)), {"ring": ("a",)})
        self.assertEqual(raised(self, Ringed, Keys, ("b", "a"), (("b", "a"), ("a", "b"))), {"ring": ("a", "b")})
        tells = (("a", "b"), ("c", "b"), ("b", "c"), ("c", "d"))
        self.assertEqual(raised(self, Ringed, Keys, ("d", "c", "b", "a"), tells), {"ring": ("b", "c")})

    def test_no_name_goes_ahead_of_a_ring(self):
        self.assertEqual(raised(self, NoName, Keys, ("a",), (("a", "a"), ("a", "z"))), {"name": "z"})

    def test_does_not_change(self):
        for name in ("names", "pairs", "text", "keysets"):
            with self.assertRaises(AttributeError):
                setattr(Keys(("a",)), name, ())


class Asking(unittest.TestCase):
    def test_tells_and_told(self):
        self.assertIs(SHOPS.tells("shop", "city"), True)
        self.assertIs(SHOPS.tells("city", "shop"), False)
        self.assertIs(SHOPS.tells("shop", "shop"), False)
        self.assertEqual(SHOPS.told("shop"), ("city",))
        self.assertEqual(SHOPS.told("user"), ())

    def test_tells_and_told_without_the_name(self):
        self.assertEqual(raised(self, NoName, SHOPS.tells, "x", "y"), {"name": "x"})
        self.assertEqual(raised(self, NoName, SHOPS.tells, "shop", "y"), {"name": "y"})
        self.assertEqual(raised(self, NoName, SHOPS.tells, "x", "x"), {"name": "x"})
        self.assertEqual(raised(self, NoName, SHOPS.told, "#"), {"name": "#"})

    def test_in_and_len(self):
        self.assertIs("shop" in SHOPS, True)
        for text in ("#", "", "Shop", "sho", "-"):
            self.assertIs(text in SHOPS, False)
        self.assertEqual(len(SHOPS), 3)

    def test_equal(self):
        self.assertTrue(SHOPS == Keys(("city", "shop", "user"), [["shop", "city"]]))
        self.assertFalse(SHOPS != Keys(("city", "shop", "user"), [["shop", "city"]]))
        self.assertFalse(SHOPS == Keys(("city", "shop", "user")))
        self.assertFalse(SHOPS == Keys(("city", "shop"), (("shop", "city"),)))
        follows = Keys(CHAIN.names, (("a", "b"), ("b", "c"), ("c", "d"), ("a", "d")))
        self.assertTrue(follows == CHAIN)
        for other in (("city", "shop", "user"), None, 3, "city", Pipeline(SHOPS), SHOPS.text):
            self.assertIs(SHOPS == other, False)
            self.assertIs(SHOPS != other, True)

    def test_closed(self):
        self.assertEqual(SHOPS.closed(()), ())
        self.assertEqual(SHOPS.closed(("shop",)), ("city", "shop"))
        self.assertEqual(SHOPS.closed(("user", "city", "user")), ("city", "user"))
        self.assertEqual(SHOPS.closed(("#", "#")), EACH)
        self.assertEqual(SHOPS.closed(("shop", "#", "user")), EACH)
        self.assertEqual(CHAIN.closed(("b",)), ("b", "c", "d"))

    def test_closed_without_the_name(self):
        self.assertEqual(raised(self, NoName, SHOPS.closed, ("user", "x", "y")), {"name": "x"})
        self.assertEqual(raised(self, NoName, SHOPS.closed, ("#", "x")), {"name": "x"})
        self.assertEqual(raised(self, NoName, SHOPS.closed, ("x", "#")), {"name": "x"})


class Texts(unittest.TestCase):
    def test_blanks_and_empty_lines(self):
        text = "\n   shop    tells city  \n\n   \n user\nuser\n"
        self.assertEqual(Keys.of(text), SHOPS)

    def test_no_names(self):
        for text in ("", "\n\n", "   ", " \n "):
            self.assertEqual(Keys.of(text), Keys(()))

    def test_the_word_tells_is_a_name_too(self):
        self.assertEqual(Keys.of("tells").names, ("tells",))
        self.assertEqual(Keys.of("tells tells a").pairs, (("tells", "a"),))
        self.assertEqual(raised(self, Ringed, Keys.of, "tells tells tells"), {"ring": ("tells",)})

    def test_there_and_back(self):
        for keys in (SHOPS, CHAIN, Keys(()), Keys(("abcdefgh",))):
            self.assertEqual(Keys.of(keys.text), keys)
            self.assertEqual(Keys.of(keys.text).text, keys.text)

    def test_bad_lines(self):
        bad = ("a b", "a tells", "tells b", "a told b", "a tells b c", "a tells b tells c", "A", "a1", "#", "-", "a+b",
               "abcdefghi", "a tells abcdefghi", "a\tb", "\t", "a\r", "a;b", "\u00e4")
        for line in bad:
            with self.subTest(line=line):
                self.assertEqual(raised(self, BadLine, Keys.of, line), {"number": 0})
                self.assertEqual(raised(self, BadLine, Keys.of, f"x\n\n {line}\nb c"), {"number": 2})

    def test_a_bad_line_goes_ahead_of_a_ring(self):
        self.assertEqual(raised(self, BadLine, Keys.of, "a tells a\na b"), {"number": 1})
        self.assertEqual(raised(self, Ringed, Keys.of, "a tells b\nb tells a\nc tells a"), {"ring": ("a", "b")})


class Keysets(unittest.TestCase):
    def test_is_keyset(self):
        for keyset in SHOPS.keysets:
            self.assertIs(is_keyset(SHOPS, keyset), True)
        things = (["city"], [], ("shop",), ("user", "city"), ("city", "city"), ("x",), ("#", "#"), ("city", "#"), ["#"],
                  "#", "", "city", None, True, False, 0, (True,), (None,), (("city",),), (["city"],), ("city", 1), (0,),
                  (Pipeline(SHOPS),), Pipeline(SHOPS), SHOPS, Sampler(SHOPS, (), (1, 2)), (SHOPS,))
        for thing in things:
            with self.subTest(thing=thing):
                self.assertIs(is_keyset(SHOPS, thing), False)

    def test_is_keyset_of_something_deep(self):
        thing = ()
        for _ in range(12):
            thing = (thing, [thing])
        self.assertIs(is_keyset(SHOPS, thing), False)

    def test_within_is_an_order_with_each_below_the_record(self):
        for one, other in itertools.product(CHAIN.keysets + SHOPS.keysets, repeat=2):
            wanted = other == EACH or (one != EACH and set(one) <= set(other))
            self.assertIs(within(one, other), wanted)

    def test_joint_and_common_are_least_and_greatest(self):
        for keys in (SHOPS, CHAIN, Keys(("a", "b", "c")), Keys(())):
            for one, other in itertools.product(keys.keysets, repeat=2):
                over = [each for each in keys.keysets if within(one, each) and within(other, each)]
                under = [each for each in keys.keysets if within(each, one) and within(each, other)]
                self.assertIn(joint(one, other), over)
                self.assertTrue(all(within(joint(one, other), each) for each in over))
                self.assertIn(common(one, other), under)
                self.assertTrue(all(within(each, common(one, other)) for each in under))

    def test_the_edges(self):
        self.assertEqual(joint((), ()), ())
        self.assertEqual(joint((), EACH), EACH)
        self.assertEqual(joint(EACH, ("a",)), EACH)
        self.assertEqual(common((), EACH), ())
        self.assertEqual(common(EACH, EACH), EACH)
        self.assertEqual(common(("a",), EACH), ("a",))

    def test_below(self):
        self.assertEqual(below(SHOPS, ()), [()])
        self.assertEqual(below(SHOPS, EACH), list(SHOPS.keysets))
        self.assertEqual(below(SHOPS, ("city", "shop")), [(), ("city",), ("city", "shop")])

    def test_tops(self):
        self.assertEqual(tops(SHOPS, ()), ())
        self.assertEqual(tops(SHOPS, EACH), EACH)
        self.assertEqual(tops(SHOPS, ("city",)), ("city",))
        self.assertEqual(tops(CHAIN, ("a", "b", "c", "d")), ("a",))
        for keys in (SHOPS, CHAIN, Keys(("a", "b"))):
            for keyset in keys.keysets:
                self.assertEqual(keys.closed(tops(keys, keyset)), keyset)

    def test_texts(self):
        self.assertEqual([keyset_text(keyset) for keyset in ((), EACH, ("a",), ("a", "b"))], ["-", "#", "a", "a+b"])
        for keyset in SHOPS.keysets:
            self.assertEqual(keyset_of(SHOPS, keyset_text(keyset)), keyset)
        self.assertEqual(keyset_of(SHOPS, "user+shop+user"), ("city", "shop", "user"))
        self.assertEqual(keyset_of(SHOPS, "shop"), ("city", "shop"))

    def test_bad_texts(self):
        bad = ("", " ", "+", "user+", "+user", "user++shop", "user shop", " user", "user ", "user,shop", "user+#", "#+#",
               "-+user", "--", "##", "User", "user1", "abcdefghi", "user\n", "user + shop", "\u00e4")
        for text in bad:
            with self.subTest(text=text):
                self.assertEqual(raised(self, BadKeyset, keyset_of, SHOPS, text), {"given": text})

    def test_a_bad_text_goes_ahead_of_a_name(self):
        self.assertEqual(raised(self, BadKeyset, keyset_of, SHOPS, "x+y+"), {"given": "x+y+"})
        self.assertEqual(raised(self, NoName, keyset_of, SHOPS, "user+y+x"), {"name": "y"})
        self.assertEqual(raised(self, NoName, keyset_of, SHOPS, "abcdefgh"), {"name": "abcdefgh"})


if __name__ == "__main__":
    unittest.main()
