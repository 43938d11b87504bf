"""[13] What is told by what was kept."""

import itertools
import unittest
from fractions import Fraction

from surershares.errors import BadLog, MixedKeys, NoPlace
from surershares.keys import Keys, tops, within
from surershares.logs import (
    Logs, can_be, covered, form_of, is_log, parting, plain_form, plain_forms, teaching, whole, why_not,
)
from surershares.samplers import Pipeline, Sampler
from surershares.streams import chance_of, chances, is_stream
from test_keys import CHAIN, EACH, SHOPS, raised
from test_streams import BARE, DAY, by_all_coins, pair

TWO = Keys(("day", "user"))
THREE = Keys(("a", "b", "c"))
STREAM = ((1, (0, 5)), (2, (0, 6)), (3, (1, 5)))
LOG = (STREAM, (2, 3))


def forms(keys):
    """All FORMs: all sets of KEYSETs."""
    for many in range(len(keys.keysets) + 1):
        yield from itertools.combinations(keys.keysets, many)


def logs_of(stream):
    """All LOGs of a STREAM."""
    numbers = sorted(number for number, _ in stream)
    for many in range(len(numbers) + 1):
        for kept in itertools.combinations(numbers, many):
            yield (stream, kept)


def sampled_by(keys, form, share=(1, 2)):
    """A Pipeline with this FORM."""
    return Pipeline(keys, [Sampler(keys, keyset, share) for keyset in form])


def small_streams(keys, most):
    """STREAMs that are alike in many ways, of at most so many RECORDs."""
    rows = list(itertools.product((0, 1), repeat=len(keys)))
    for many in range(most + 1):
        for picked in itertools.combinations_with_replacement(rows, many):
            stream = tuple(enumerate(picked, start=3))
            if is_stream(keys, stream):
                yield stream


def by_hand(keys, log, form):
    """The numbers of the dropped RECORDs for which the FORM gives no reason, as the document says."""
    stream, kept = log
    found = []
    for record in stream:
        if record[0] in kept:
            continue
        reasons = []
        for keyset in form:
            alike = [other for other in stream if other[0] in kept
                     and keyset != EACH and all(record[1][keys.names.index(name)] == other[1][keys.names.index(name)] for name in keyset)]
            if not alike:
                reasons.append(keyset)
        if not reasons:
            found.append(record[0])
    return sorted(found)


class Forms(unittest.TestCase):
    def test_form_of(self):
        for text, form in (("", ()), ("user 1; # 1", ()), ("# 1/2; user 1/2 a; user 1/3", (("user",), EACH)), ("- 1/2", ((),)),
                           ("day+user 1/2; day 1/2; - 9/10; user 1", ((), ("day",), ("day", "user")))):
            self.assertEqual(form_of(Pipeline.of(TWO, text)), form)

    def test_plain_form(self):
        for form in forms(TWO):
            wanted = tuple(one for one in form if not any(within(one, other) and one != other for other in form))
            self.assertEqual(plain_form(form), wanted)
            self.assertTrue(covered(plain_form(form), form) and covered(form, plain_form(form)))
        self.assertEqual((plain_form(()), plain_form(((), EACH)), plain_form(((),))), ((), (EACH,), ((),)))

    def test_plain_forms(self):
        for keys in (BARE, DAY, TWO, SHOPS, CHAIN, THREE, Keys(("a", "b", "c"), (("a", "b"), ("a", "c")))):
            if len(keys) > 3:
                continue
            wanted = [form for form in forms(keys) if not any(within(one, other) for one, other in itertools.permutations(form, 2))]
            places = {form: [keys.keysets.index(keyset) for keyset in form] for form in wanted}
            wanted = sorted(wanted, key=lambda form: (len(form), places[form]))
            self.assertEqual(plain_forms(keys), wanted)
        self.assertEqual(plain_forms(BARE), [(), ((),), (EACH,)])
        self.assertEqual(len(plain_forms(THREE)), 21)
        self.assertEqual(len(plain_forms(CHAIN)), 7)
        self.assertEqual(plain_forms(THREE)[-1], (("a", "b"), ("a", "c"), ("b", "c")))

    def test_covered(self):
        for one, other in itertools.product(list(forms(TWO)), repeat=2):
            wanted = all(any(within(part, outer) for outer in other) for part in one)
            self.assertIs(covered(one, other), wanted)
        self.assertEqual((covered((), ()), covered((), (EACH,)), covered(((),), ()), covered((EACH,), ())), (True, True, False, False))

    def test_covered_forms_allow_no_other_logs(self):
        streams = list(small_streams(TWO, 3))
        for one, other in itertools.product(plain_forms(TWO), repeat=2):
            allowed = all(can_be(TWO, log, other) for stream in streams for log in logs_of(stream) if can_be(TWO, log, one))
            self.assertIs(allowed, covered(one, other))

    def test_as_many_logs_exactly_if_the_plain_forms_are_the_same(self):
        streams = list(small_streams(TWO, 3))
        allowed = {}
        for form in forms(TWO):
            allowed[form] = [can_be(TWO, log, form) for stream in streams for log in logs_of(stream)]
        for one, other in itertools.product(allowed, repeat=2):
            self.assertIs(allowed[one] == allowed[other], plain_form(one) == plain_form(other))

    def test_whole(self):
        for form, keyset in itertools.product(list(forms(TWO)), TWO.keysets):
            self.assertIs(whole(form, keyset), all(within(part, keyset) for part in form))
        self.assertEqual((whole((), ()), whole(((),), ()), whole((EACH,), ("day", "user")), whole((EACH,), EACH)), (True, True, False, True))

    def test_whole_by_what_can_be_kept(self):
        # A STREAM of RECORDs that are alike just in each KEYSET: whole exactly if none of them is torn.
        for form, keyset in itertools.product(plain_forms(TWO), TWO.keysets[:-1]):
            values = [0 if name in keyset else 1 for name in TWO.names]
            stream = ((0, (0, 0)), (1, tuple(values)), (2, (0, 0)) if keyset == TWO.names else (2, tuple(2 * value for value in values)))
            torn = any(0 < len(kept) < 3 for kept, _ in chances(sampled_by(TWO, form), stream))
            self.assertIs(whole(form, keyset), not torn)


class IsLog(unittest.TestCase):
    def test_logs(self):
        for keys, thing in ((TWO, LOG), (TWO, ((), ())), (TWO, (STREAM, ())), (TWO, (STREAM, (1, 2, 3))), (BARE, (((4, ()),), (4,))),
                            (TWO, (((9, (0, 0)), (2, (0, 0))), (2, 9))), (DAY, (((10 ** 70, (-5,)),), (10 ** 70,)))):
            self.assertIs(is_log(keys, thing), True)

    def test_no_logs(self):
        things = ([STREAM, (2,)], (list(STREAM), (2,)), (STREAM, [2]), (STREAM, (3, 2)), (STREAM, (2, 2)), (STREAM, (4,)), (STREAM, (2, 7)),
                  (STREAM, (True,)), (STREAM, ("2",)), (STREAM, (None,)), (STREAM, ((2,),)), (STREAM, 2), (STREAM,), (STREAM, (2,), ()), (), STREAM,
                  (STREAM + STREAM[:1], (2,)), ((((1, (0,)),)), (1,)), (None, ()), ((), None), None, True, 5, "ab", ("", ""), ((), ""), TWO,
                  Logs(TWO), (TWO, ()), (STREAM, TWO), ((), (1,)), (((1, (0, True)),), (1,)), (STREAM, (2, [3])), (STREAM, ([],)), (STREAM, (2.0,)))
        for thing in things:
            with self.subTest(thing=thing):
                self.assertIs(is_log(TWO, thing), False)

    def test_the_keys_decide(self):
        log = (((1, (1, 2, 3)), (2, (4, 2, 3))), (1,))
        self.assertEqual((is_log(SHOPS, log), is_log(Keys(SHOPS.names), log), is_log(TWO, log)), (False, True, False))


class CanBe(unittest.TestCase):
    def test_by_all_coins(self):
        for keys, most in ((BARE, 2), (DAY, 3), (TWO, 2), (SHOPS, 2)):
            for form in forms(keys):
                if len(form) > 3:
                    continue
                pipeline = sampled_by(keys, form)
                for stream in small_streams(keys, most):
                    kept = {tuple(sorted(number for number, _ in each)) for each in by_all_coins(pipeline, stream)}
                    for log in logs_of(stream):
                        self.assertIs(can_be(keys, log, form), log[1] in kept)

    def test_for_all_shares_or_for_none(self):
        for form in plain_forms(TWO):
            for stream in small_streams(TWO, 3):
                for log in logs_of(stream):
                    found = [chance_of(sampled_by(TWO, form, share), *log) > (0, 1) for share in ((1, 2), (1, 1000), (999, 1000))]
                    self.assertEqual(found, [can_be(TWO, log, form)] * 3)

    def test_why_not(self):
        for keys in (TWO, SHOPS, THREE):
            for stream in list(small_streams(keys, 3))[::3]:
                stream = stream[::-1]
                for log, form in itertools.product(logs_of(stream), plain_forms(keys)):
                    wanted = by_hand(keys, log, form)
                    self.assertEqual(why_not(keys, log, form), wanted[0] if wanted else None)
                    self.assertIs(can_be(keys, log, form), not wanted)

    def test_edges(self):
        self.assertEqual((can_be(TWO, ((), ()), ()), can_be(TWO, (STREAM, (1, 2, 3)), ())), (True, True))
        self.assertEqual((why_not(TWO, (STREAM, ()), ()), can_be(TWO, (STREAM, ()), ((),))), (1, True))
        self.assertEqual((why_not(TWO, (STREAM, (1,)), ((),)), why_not(TWO, (STREAM, (1,)), (EACH,))), (2, None))
        stream = ((9, (0, 0)), (4, (0, 0)), (7, (0, 0)))
        self.assertEqual((why_not(TWO, (stream, (7,)), (("user",),)), why_not(TWO, (stream, (4,)), ())), (4, 7))


class Parting(unittest.TestCase):
    def needed(self, keys, one, other):
        """The fewest RECORDs: for a KEYSET of one, as few tops as can be so that each KEYSET of other lacks one of them."""
        found = []
        for keyset in one:
            if not covered((keyset,), other):
                heads = tops(keys, keyset)
                found += [many + 1 for many in range(len(heads) + 1) for part in itertools.combinations(heads, many)
                          if all(any(head not in each for head in part) for each in other)]
        return min(found)

    def test_all_pairs_of_forms(self):
        for keys in (BARE, DAY, TWO, SHOPS, THREE, CHAIN):
            every = plain_forms(keys) + [form for form in list(forms(keys))[::17]]
            for one, other in itertools.product(every, repeat=2):
                found = parting(keys, one, other)
                if covered(one, other):
                    self.assertIsNone(found)
                    continue
                self.assertTrue(is_log(keys, found))
                self.assertEqual((can_be(keys, found, one), can_be(keys, found, other)), (True, False))
                self.assertEqual(len(found[0]), self.needed(keys, one, other))

    def test_no_fewer_by_trying(self):
        for one, other in itertools.product(plain_forms(TWO), repeat=2):
            found = parting(TWO, one, other)
            if found is not None:
                for stream in small_streams(TWO, min(len(found[0]) - 1, 2)):
                    if len(stream) < len(found[0]):
                        self.assertFalse(any(can_be(TWO, log, one) and not can_be(TWO, log, other) for log in logs_of(stream)))

    def test_some(self):
        self.assertEqual(len(parting(THREE, (("a", "b", "c"),), (("a", "b"), ("a", "c"), ("b", "c")))[0]), 4)
        self.assertEqual(len(parting(THREE, (("a", "b", "c"),), (("a", "b"), ("a",)))[0]), 2)
        # Of several KEYSETs the one that needs the fewest is taken.
        self.assertEqual(len(parting(THREE, (("a", "b", "c"), EACH), (("a", "b"), ("a", "c"), ("b", "c")))[0]), 2)
        self.assertEqual(len(parting(THREE, (("a", "b"), ("c",)), (("a",), ("b",)))[0]), 2)
        for one in (((),), (("a",),), (EACH,), (("a", "b"), EACH)):
            stream, kept = parting(THREE, one, ())
            self.assertEqual((len(stream), kept), (1, ()))

    def test_what_a_name_tells(self):
        stream, kept = parting(SHOPS, (("city", "shop"),), (("city",), ("user",)))
        self.assertEqual((len(stream), len(kept)), (2, 1))
        dropped = [record for record in stream if record[0] not in kept][0]
        other = [record for record in stream if record[0] in kept][0]
        self.assertEqual([one == two for one, two in zip(dropped[1], other[1])], [True, False, True])


class Teaching(unittest.TestCase):
    def test_against_all_plain_forms(self):
        for keys in (BARE, DAY, TWO, SHOPS, THREE, Keys(("a", "b", "c"), (("a", "b"), ("b", "c"))), Keys(("a", "b", "c"), (("a", "c"), ("b", "c")))):
            for form in plain_forms(keys):
                log = teaching(keys, form)
                self.assertTrue(is_log(keys, log))
                for other in plain_forms(keys):
                    self.assertIs(can_be(keys, log, other), covered(form, other))

    def test_against_all_forms(self):
        for keys in (DAY, TWO):
            for form in forms(keys):
                log = teaching(keys, form)
                for other in forms(keys):
                    self.assertIs(can_be(keys, log, other), covered(form, other))

    def test_nothing_to_teach(self):
        stream, kept = teaching(TWO, ())
        self.assertEqual(len(stream), len(kept))


class ManyLogs(unittest.TestCase):
    def tables(self):
        """Some Logs of two names."""
        rows = [log for stream in list(small_streams(TWO, 3))[::2] for log in logs_of(stream)]
        yield Logs(TWO)
        for at, step in itertools.product(range(0, len(rows), 3), (1, 17)):
            yield Logs(TWO, rows[at::step][:2])

    def test_what_it_holds(self):
        other = (((7, (2, 8)), (8, (2, 9))), (8,))
        logs = Logs(TWO, [LOG, other])
        self.assertEqual((logs.schema, len(logs), logs[0], logs[1]), (TWO, 2, LOG, other))
        self.assertEqual((len(Logs(TWO)), len(Logs(TWO, [LOG] * 3))), (0, 3))
        for logs, places in ((logs, (-1, 2, 10 ** 30)), (Logs(TWO), (0, -1))):
            for k in places:
                self.assertEqual(raised(self, NoPlace, logs.__getitem__, k), {"place": k})

    def test_lists_count_as_tuples(self):
        logs = Logs(TWO, ([[[1, [0, 5]], [2, [0, 6]], (3, [1, 5])], [2, 3]],))
        self.assertEqual((logs[0], logs), (LOG, Logs(TWO, [LOG])))

    def test_wrong_ones(self):
        for wrong in ((STREAM, (3, 2)), (STREAM, (4,)), (STREAM + STREAM[:1], ()), (((1, (0, 5, 6)),), ()), (STREAM, (2, 2)), ((), (1,)),
                      [[[1, [0, True]]], []], (((-1, (0, 0)),), ())):
            self.assertEqual(raised(self, BadLog, Logs, TWO, [wrong]), {"place": 0})
            self.assertEqual(raised(self, BadLog, Logs, TWO, [LOG, ((), ()), wrong, wrong]), {"place": 2})

    def test_can_not_be_gone_through(self):
        for logs in (Logs(TWO), Logs(TWO, [LOG])):
            for call in (iter, list, tuple, lambda each: [log for log in each]):
                with self.assertRaises(TypeError):
                    call(logs)

    def test_equal(self):
        other = (STREAM, (1,))
        logs = Logs(TWO, [LOG, other])
        self.assertIs(logs == Logs(Keys.of("user\nday"), (LOG, other)), True)
        self.assertIs(logs != Logs(TWO, (LOG, other)), False)
        told = Keys(TWO.names, (("day", "user"),))
        for each in (Logs(TWO, [other, LOG]), Logs(TWO, [LOG]), Logs(TWO), None, (LOG, other), [LOG, other], TWO):
            self.assertIs(logs == each, False)
            self.assertIs(logs != each, True)
        self.assertIs(Logs(TWO) == Logs(told), False)

    def test_does_not_change(self):
        rows = [[[list(record) for record in STREAM], [2, 3]]]
        logs = Logs(TWO, rows)
        rows[0][1].append(9)
        rows.clear()
        self.assertEqual((len(logs), logs[0]), (1, LOG))
        with self.assertRaises(AttributeError):
            logs.schema = TWO
        with self.assertRaises(TypeError):
            logs[0] = LOG

    def test_misfit(self):
        for logs, form in itertools.product(list(self.tables())[::5], forms(TWO)):
            found = [(place, why_not(TWO, logs[place], form)) for place in range(len(logs))]
            wanted = [each for each in found if each[1] is not None]
            self.assertEqual(logs.misfit(form), wanted[0] if wanted else None)

    def test_least_forms_alone_and_surely_by_all_forms(self):
        for logs in self.tables():
            fit = [form for form in forms(TWO) if logs.misfit(form) is None]
            plain = [form for form in plain_forms(TWO) if form in fit]
            least = [form for form in plain if not any(covered(other, form) and other != form for other in plain)]
            self.assertEqual(logs.least_forms(), least)
            self.assertEqual(logs.alone(), tuple(keyset for keyset in TWO.keysets if (keyset,) in fit))
            for keyset in TWO.keysets:
                self.assertIs(logs.surely(keyset), all(covered((keyset,), form) for form in fit))
                self.assertIs(logs.surely(keyset), all(covered((keyset,), form) for form in plain))
            for form in fit:
                self.assertTrue(all(logs.misfit(other) is None for other in forms(TWO) if covered(form, other)))
            self.assertIsNone(logs.misfit((EACH,)))

    def test_several_least_forms(self):
        # 1 is dropped though its day was kept; so something looks at the user: alone, or at all that is 2's and not its.
        logs = Logs(THREE, [(((1, (0, 0, 0)), (2, (0, 1, 1))), (2,))])
        self.assertEqual(logs.least_forms(), [(("b",),), (("c",),)])
        self.assertEqual((logs.surely(("b",)), logs.surely(()), logs.alone()[:3]), (False, True, (("b",), ("c",), ("a", "b"))))

    def test_three_names(self):
        rows = [log for stream in list(small_streams(THREE, 3))[::9] for log in logs_of(stream)]
        for at in range(0, len(rows), 7):
            logs = Logs(THREE, rows[at:at + 2])
            fit = [form for form in plain_forms(THREE) if logs.misfit(form) is None]
            self.assertEqual(logs.least_forms(), [form for form in fit if not any(covered(each, form) and each != form for each in fit)])
            for keyset in THREE.keysets:
                self.assertIs(logs.surely(keyset), all(covered((keyset,), form) for form in fit))

    def test_without_logs(self):
        logs = Logs(TWO)
        self.assertEqual((logs.misfit(()), logs.least_forms(), logs.alone()), (None, [()], TWO.keysets))
        self.assertEqual((logs.surely(()), logs.surely(EACH), logs.chance(Pipeline.of(TWO, "user 1/2"))), (False, False, (1, 1)))

    def test_chance(self):
        texts = ("", "- 1/2", "user 1/3", "# 2/3", "day 1/2; user 1/2 a", "day+user 1/2; user 1/2")
        for logs, text in itertools.product(list(self.tables())[::2], texts):
            pipeline = Pipeline.of(TWO, text)
            wanted = Fraction(1)
            for place in range(len(logs)):
                wanted *= Fraction(*chance_of(pipeline, *logs[place]))
            self.assertEqual(logs.chance(pipeline), pair(wanted))
            self.assertIs(wanted > 0, logs.misfit(form_of(pipeline)) is None)

    def test_mixed_keys(self):
        for logs in (Logs(TWO), Logs(TWO, [LOG])):
            self.assertEqual(raised(self, MixedKeys, logs.chance, Pipeline(DAY)), {})
            self.assertEqual(raised(self, MixedKeys, logs.chance, Pipeline(Keys(TWO.names, (("day", "user"),)))), {})


if __name__ == "__main__":
    unittest.main()
