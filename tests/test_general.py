"""[2] and [3]: what holds for all functions and classes."""

import unittest

from surershares.answers import (
    Crowds, Lots, Pairs, Total, Unlike, Worths, answer, kept_mean, question_of, spread, weight,
)
from surershares.board import Board
from surershares.desk import answers
from surershares.edits import edited, effect, fewest_edits, least_rate, needless, trimmed
from surershares.errors import BadShare, MixedKeys
from surershares.joins import Join, crossing
from surershares.keys import Keys, below, common, is_keyset, joint, keyset_of, keyset_text, tops, within
from surershares.logs import (
    Logs, can_be, covered, form_of, is_log, parting, plain_form, plain_forms, teaching, whole, why_not,
)
from surershares.samplers import Pipeline, Sampler
from surershares.streams import (
    agreement, chance, chance_of, chances, classes, coins, is_stream, kept_by, stream_of, values_of,
)
from surershares.surer import Contrast, Crowd, both_ways, compare, contrast, crowd, surer_counts, surer_sums
from surershares.tables import (
    barrier, corners, gap, greatest_below, least_above, moved, moves, numbers, pipeline_by,
)
from surershares.texts import board_in, board_text, fraction_in, fraction_text, stream_in, stream_text
from surershares.thinner import Grid, first_over, further, grid_of

KEYS = Keys(("city", "shop", "user"), (("shop", "city"),))
STREAM = ((4, (1, 1, 5)), (0, (1, 1, 6)), (9, (1, 2, 5)))
HALF = Pipeline.of(KEYS, "user 1/2; # 2/3 a")
QUESTIONS = (Total(KEYS, "user"), Worths(((4, 1), (0, -3))), Unlike(KEYS, ("user",)), Pairs(KEYS, ("shop",)), Crowds(KEYS, (), 2),
             Lots((((), 1), ((0, 4), 2))), Unlike(KEYS, ("#",)) * Total(KEYS, "city") - Worths(()))
JOIN = Join(HALF, Pipeline.of(KEYS, "user 1/4; city 1/2"), ())
RIGHTS = ((4, (1, 1, 6)), (1, (2, 3, 5)))
ASKED = (((4, 2), (9, -1)), None)
LOG = (STREAM, (0, 4))
FORM = (("shop",), ("city", "user"))
BOARD_TEXT = "app: user 1/2\nbase counts - 1/4\nbudget 1/2"


def listed(value):
    """The value with a list in the place of each tuple, at any depth."""
    return [listed(item) for item in value] if isinstance(value, (tuple, list)) else value


class ListsForTuples(unittest.TestCase):
    def test_keys(self):
        self.assertEqual(Keys(["user", "shop", "city"], [["shop", "city"]]), KEYS)
        self.assertEqual(Keys(["user", "shop", "city"], [["shop", "city"]]).pairs, (("shop", "city"),))
        self.assertEqual(KEYS.closed(["user", "shop"]), ("city", "shop", "user"))
        self.assertEqual(KEYS.closed(["#", "user"]), ("#",))

    def test_keysets(self):
        self.assertIs(within(["#"], ["#"]), True)
        self.assertIs(within(["city"], ["#"]), True)
        self.assertIs(within(["#"], ["city"]), False)
        self.assertIs(within(["city"], ("city", "user")), True)
        self.assertEqual((joint(["#"], ["city"]), joint(["city"], ["#"])), (("#",), ("#",)))
        self.assertEqual((joint(["user"], ["city"]), joint([], [])), (("city", "user"), ()))
        self.assertEqual((common(["#"], ["city"]), common(["city"], ["#"])), (("city",), ("city",)))
        self.assertEqual((common(["#"], ["#"]), common(["city", "user"], ["user"])), (("#",), ("user",)))
        self.assertEqual(below(KEYS, ["city"]), [(), ("city",)])
        self.assertEqual(below(KEYS, ["#"]), list(KEYS.keysets))
        self.assertEqual((tops(KEYS, ["#"]), tops(KEYS, ["city", "shop"]), tops(KEYS, [])), (("#",), ("shop",), ()))
        self.assertEqual((keyset_text([]), keyset_text(["#"]), keyset_text(["a", "b"])), ("-", "#", "a+b"))

    def test_a_thing_is_taken_as_it_is(self):
        self.assertIs(is_keyset(KEYS, ("city",)), True)
        self.assertIs(is_keyset(KEYS, ["city"]), False)

    def test_samplers(self):
        sampler = Sampler(KEYS, ["user"], [1, 2], salt="a")
        self.assertEqual((sampler.rate, sampler.keyset), ((1, 2), ("user",)))
        self.assertEqual(sampler.at([1, 3]).rate, (1, 3))
        pipeline = Pipeline(KEYS, [sampler])
        self.assertEqual(pipeline.samplers, (sampler,))
        self.assertEqual(Pipeline(KEYS, (sampler,)), pipeline)
        self.assertEqual((pipeline.share(["user"]), pipeline.share(["#"]), pipeline.share([])), ((1, 2), (1, 1), (1, 1)))
        self.assertEqual((pipeline.together(["#"]), pipeline.together(["city"])), ((1, 2), (1, 1)))
        self.assertEqual((pipeline.squares(["user"]), pipeline.squares(["#"])), ((1, 1), (0, 1)))
        self.assertIs(["user"] in pipeline, True)
        self.assertIs(["#"] in pipeline, False)

    def test_streams(self):
        stream, one, other = listed(STREAM), listed(STREAM[0]), listed(STREAM[1])
        self.assertEqual(stream_of(KEYS, stream), STREAM)
        self.assertIs(is_stream(KEYS, stream), False)
        self.assertEqual((agreement(KEYS, one, other), agreement(KEYS, one, one)), (("city", "shop"), ("#",)))
        for keyset in KEYS.keysets:
            self.assertEqual(values_of(KEYS, listed(keyset), one), values_of(KEYS, keyset, STREAM[0]))
            self.assertEqual(classes(KEYS, listed(keyset), stream), classes(KEYS, keyset, STREAM))
        self.assertEqual(coins(HALF, stream), coins(HALF, STREAM))
        numbers = ((0, 1), (1, 2), (1, 3), (2, 3), (0, 1))
        self.assertEqual(kept_by(HALF, stream, listed(numbers)), kept_by(HALF, STREAM, numbers))
        self.assertEqual(kept_by(HALF, STREAM, numbers), STREAM[2:])
        self.assertEqual(chance(HALF, stream), chance(HALF, STREAM))
        self.assertEqual(chance_of(HALF, stream, [4, 9]), chance_of(HALF, STREAM, (4, 9)))
        self.assertEqual(chances(HALF, stream), chances(HALF, STREAM))

    def test_grids(self):
        self.assertEqual(Grid(KEYS, ["user", "shop"], 2, 3), Grid(KEYS, ("user", "shop"), 2, 3))
        self.assertEqual(Grid(KEYS, ["#"], 2, 1).stream(), ((0, (0, 0, 0)), (1, (0, 0, 0))))
        self.assertEqual(Grid(KEYS, [], 1, 2).keyset, ())

    def test_questions(self):
        stream = listed(STREAM)
        pairs = ((Worths(((4, 1), (0, -3))), Worths([[4, 1], [0, -3]])), (Lots((((0, 4), 2), ((), 1))), Lots([[[0, 4], 2], [[], 1]])),
                 (Unlike(KEYS, ("shop",)), Unlike(KEYS, ["shop"])), (Pairs(KEYS, ("#",)), Pairs(KEYS, ["#"])),
                 (Crowds(KEYS, ("user",), 2), Crowds(KEYS, ["user"], 2)))
        for one, other in pairs + tuple((question, question) for question in QUESTIONS):
            self.assertEqual((one.value(STREAM), one.parts(STREAM)), (other.value(stream), other.parts(stream)))
            for call in (answer, spread, kept_mean):
                self.assertEqual(call(one, HALF, STREAM), call(other, HALF, stream))

    def test_papers(self):
        none = Pipeline(KEYS)
        self.assertEqual(Contrast(HALF, none, ["user"], 2), Contrast(HALF, none, ("user",), 2))
        self.assertEqual(Contrast(HALF, none, ["#"], 1).stream(), Contrast(HALF, none, ("#",), 1).stream())
        self.assertEqual(Crowd(HALF, none, ["shop"], 2), Crowd(HALF, none, ("shop",), 2))
        self.assertEqual(Crowd(HALF, none, ["#"], 1).keyset, ("#",))

    def test_tables(self):
        for order in ("all", "sums", "counts"):
            self.assertEqual(pipeline_by(KEYS, order, listed(numbers(HALF, order))), HALF)
        low, high = ("city",), ("city", "shop")
        one = Pipeline.of(KEYS, "city 1/2")
        self.assertEqual(moved(one, list(low), list(high), [1, 2]), moved(one, low, high, (1, 2)))
        self.assertEqual(moved(one, ["city"], ["#"], [1, 2]), Pipeline.of(KEYS, "# 1/2"))

    def test_joins(self):
        self.assertEqual(Join(HALF, JOIN.right, ["user", "shop"]), Join(HALF, JOIN.right, ("user", "shop")))
        stream, rights = listed(STREAM), listed(RIGHTS)
        self.assertEqual((JOIN.joined(stream, rights), JOIN.chance(stream, rights)), (JOIN.joined(STREAM, RIGHTS), JOIN.chance(STREAM, RIGHTS)))
        for call in (JOIN.value, JOIN.answer, JOIN.spread):
            self.assertEqual(call(stream, rights, listed(ASKED)), call(STREAM, RIGHTS, ASKED))
            self.assertEqual(call(stream, rights, [None, None]), call(STREAM, RIGHTS))
        self.assertEqual((JOIN.gain(["user"]), JOIN.gain(["#"])), ((2, 1), (1, 1)))
        self.assertEqual((JOIN.apart(["user"]), JOIN.apart(["#"])), (JOIN.apart(("user",)), JOIN))
        self.assertEqual((crossing(JOIN, ["user"]), crossing(JOIN, ["#"])), (crossing(JOIN, ("user",)), None))

    def test_edits(self):
        sampler = Sampler.of(KEYS, "city 1/3")
        for edit in (("put", 1, sampler), ("drop", 0), ("rate", 0, (1, 3)), ("names", 1, ("shop", "user")), ("salt", 0, "b")):
            self.assertEqual(edited(HALF, listed(edit)).text, edited(HALF, edit).text)
            self.assertEqual(effect(HALF, listed(edit)), effect(HALF, edit))

    def test_logs(self):
        form, other, log = (("city", "shop"), ("city", "user")), (("user",), ("#",)), listed(LOG)
        self.assertEqual(plain_form([["city"], ["city", "shop"], ["user"]]), (("city", "shop"), ("user",)))
        self.assertEqual((plain_form([[], ["#"]]), plain_form([])), ((("#",),), ()))
        for one, two in ((form, other), (other, form), ((), form), (form, ()), (form, form)):
            self.assertIs(covered(listed(one), listed(two)), covered(one, two))
            self.assertEqual(parting(KEYS, listed(one), listed(two)), parting(KEYS, one, two))
        for one in (form, other, ()):
            self.assertIs(can_be(KEYS, log, listed(one)), can_be(KEYS, LOG, one))
            self.assertEqual(why_not(KEYS, log, listed(one)), why_not(KEYS, LOG, one))
            self.assertEqual(teaching(KEYS, listed(one)), teaching(KEYS, one))
            self.assertIs(whole(listed(one), ["#"]), whole(one, ("#",)))
            self.assertIs(whole(listed(one), ["city", "user"]), whole(one, ("city", "user")))
            self.assertEqual(Logs(KEYS, [log]).misfit(listed(one)), Logs(KEYS, [LOG]).misfit(one))
        self.assertEqual((Logs(KEYS, [log]), Logs(KEYS, [log])[0]), (Logs(KEYS, (LOG,)), LOG))
        for keyset in KEYS.keysets:
            self.assertIs(Logs(KEYS, [log]).surely(listed(keyset)), Logs(KEYS, [LOG]).surely(keyset))
        self.assertIs(is_log(KEYS, log), False)

    def test_boards(self):
        board = Board(KEYS)
        board += ["app", Sampler.of(KEYS, "user 1/2")]
        board.retune("app", [1, 3])
        board.spend([1, 2])
        kept = board.sift(listed(STREAM), [[0, 1], [1, 2]])
        self.assertEqual((board["app"].rate, board.budget, kept, board.logs), ((1, 3), (1, 2), STREAM[::2], ((STREAM, STREAM[::2]),)))
        self.assertEqual(board.attempt([["spend", [1, 3]], ["sift", listed(STREAM), [[0, 1], [1, 2]]]]), (None, STREAM[::2]))

    def test_texts(self):
        self.assertEqual((fraction_text([1, 3]), stream_text(listed(STREAM))), ("1/3", stream_text(STREAM)))

    def test_an_error_has_a_tuple(self):
        with self.assertRaises(BadShare) as caught:
            Sampler(KEYS, [], [4, 2])
        self.assertEqual(caught.exception.given, (4, 2))


class ByNames(unittest.TestCase):
    def test_keys(self):
        self.assertEqual(Keys(tells=(("shop", "city"),), names=("user", "shop", "city")), KEYS)
        self.assertEqual(Keys.of(text=KEYS.text), KEYS)
        self.assertIs(KEYS.tells(other="city", one="shop"), True)
        self.assertEqual(KEYS.told(name="shop"), ("city",))
        self.assertEqual(KEYS.closed(names=("shop",)), ("city", "shop"))

    def test_keysets(self):
        self.assertIs(is_keyset(thing=("city",), keys=KEYS), True)
        self.assertIs(within(other=("city",), one=()), True)
        self.assertEqual(joint(other=("city",), one=()), ("city",))
        self.assertEqual(common(other=("city",), one=()), ())
        self.assertEqual(below(keyset=(), keys=KEYS), [()])
        self.assertEqual(tops(keyset=("city", "shop"), keys=KEYS), ("shop",))
        self.assertEqual(keyset_text(keyset=("city",)), "city")
        self.assertEqual(keyset_of(text="shop", keys=KEYS), ("city", "shop"))

    def test_samplers(self):
        sampler = Sampler(salt="a", rate=(1, 2), names=("user",), keys=KEYS)
        self.assertEqual(Sampler.of(text="user 1/2 a", keys=KEYS), sampler)
        self.assertEqual(sampler.at(rate=(1, 3)).text, "user 1/3 a")
        pipeline = Pipeline(samplers=(sampler,), keys=KEYS)
        self.assertEqual(Pipeline.of(text="user 1/2 a", keys=KEYS), pipeline)
        self.assertEqual(pipeline.share(keyset=("user",)), (1, 2))
        self.assertEqual(pipeline.together(keyset=("user",)), (1, 2))
        self.assertEqual(pipeline.squares(keyset=("user",)), (1, 1))
        self.assertEqual(pipeline.salted(word="b").text, "user 1/2 ab")


    def test_streams(self):
        self.assertIs(is_stream(thing=STREAM, keys=KEYS), True)
        self.assertEqual(stream_of(records=STREAM, keys=KEYS), STREAM)
        self.assertEqual(agreement(other=STREAM[1], one=STREAM[0], keys=KEYS), ("city", "shop"))
        self.assertEqual(values_of(record=STREAM[0], keyset=("user",), keys=KEYS), (5,))
        self.assertEqual(len(classes(stream=STREAM, keyset=("user",), keys=KEYS)), 2)
        self.assertEqual(len(coins(stream=STREAM, pipeline=HALF)), 5)
        self.assertEqual(kept_by(numbers=[(0, 1)] * 5, stream=STREAM, pipeline=HALF), STREAM)
        self.assertEqual(chance(records=STREAM[:1], pipeline=HALF), (1, 3))
        self.assertEqual(chance_of(kept=(4,), stream=STREAM[:1], pipeline=HALF), (1, 3))
        self.assertEqual(chances(stream=STREAM[:1], pipeline=HALF), [((), (2, 3)), ((4,), (1, 3))])

    def test_thinner(self):
        none = Pipeline(KEYS)
        self.assertIsNone(first_over(other=HALF, pipeline=none))
        self.assertEqual(further(other=HALF, pipeline=none), HALF)
        self.assertEqual(grid_of(other=none, pipeline=HALF).keyset, ("user",))
        grid = Grid(many=3, n=1, names=("user",), keys=KEYS)
        self.assertEqual((grid.record(place=2), grid.chance(pipeline=none)), ((2, (2, 2, 0)), (1, 1)))
        self.assertEqual((grid.margin(other=none, pipeline=HALF), grid.shows(other=none, pipeline=HALF)), ((3, 2), True))

    def test_questions(self):
        total, worths, unlike = Total(name="user", keys=KEYS), Worths(table=[(4, 2)]), Unlike(names=("user",), keys=KEYS)
        pairs, crowds, lots = Pairs(names=(), keys=KEYS), Crowds(least=2, names=(), keys=KEYS), Lots(table=[((), 7)])
        found = [question.value(stream=STREAM) for question in (total, worths, unlike, pairs, crowds, lots)]
        self.assertEqual(found, [16, 2, 2, 3, 1, 7])
        self.assertEqual(((lots + lots).value(stream=STREAM), (lots * lots).parts(stream=STREAM)), (14, [((), 49)]))
        self.assertEqual(question_of(text="pairs -", keys=KEYS).text, "pairs -")
        self.assertEqual(answer(kept=STREAM, pipeline=HALF, question=worths), (6, 1))
        self.assertEqual(spread(stream=STREAM, pipeline=HALF, question=worths), (8, 1))
        self.assertEqual(kept_mean(stream=STREAM, pipeline=HALF, question=worths), (2, 3))
        self.assertEqual(weight(question=total, pipeline=HALF), (3, 1))

    def test_surer(self):
        none = Pipeline(KEYS)
        self.assertEqual((surer_sums(q=HALF, p=none), surer_counts(q=HALF, p=none), compare(q=HALF, p=none)), (True, True, "all"))
        self.assertEqual((contrast(q=HALF, p=none), crowd(q=HALF, p=none)), (None, None))
        self.assertEqual(both_ways(q=HALF, p=none), (None, contrast(HALF, none)))
        self.assertEqual(Contrast(many=2, names=("user",), q=none, p=HALF).many, 2)
        self.assertEqual(Crowd(many=2, names=("user",), q=none, p=HALF).many, 2)

    def test_tables(self):
        none = Pipeline(KEYS)
        self.assertEqual(numbers(order="all", pipeline=none), ((1, 1),) * 7)
        self.assertEqual(pipeline_by(numbers=((1, 1),) * 7, order="counts", keys=KEYS), none)
        self.assertEqual((least_above(order="sums", q=none, p=HALF), greatest_below(order="sums", q=none, p=HALF)), (none, HALF))
        self.assertEqual((barrier(above=True, order="all", q=none, p=HALF), corners(order="all", q=none, p=HALF)), (None, []))
        self.assertEqual(moved(rate=(1, 2), high=("#",), low=("user",), pipeline=HALF).text, "# 1/3")
        self.assertEqual((moves(q=HALF, p=none), gap(q=HALF, p=none), gap(q=none, p=HALF)), ([], None, [("user",)]))

    def test_joins(self):
        self.assertEqual(Join(names=(), right=JOIN.right, left=HALF), JOIN)
        self.assertEqual(JOIN.joined(rights=RIGHTS[:1], lefts=STREAM[:1]), [(4, 4)])
        self.assertEqual(JOIN.value(question=ASKED, rights=RIGHTS, lefts=STREAM), 2)
        self.assertEqual(JOIN.chance(rights=(), lefts=STREAM[:1]), (1, 3))
        self.assertEqual(JOIN.answer(question=ASKED, rights=(), lefts=STREAM), (0, 1))
        self.assertEqual(JOIN.spread(question=ASKED, rights=(), lefts=STREAM), (0, 1))
        self.assertEqual((JOIN.gain(keyset=("user",)), JOIN.apart(keyset=("user",)).shared), ((2, 1), ()))
        self.assertEqual(crossing(keyset=("user",), join=JOIN).n % 2, 0)

    def test_edits(self):
        self.assertEqual(edited(edit=("drop", 0), pipeline=HALF).text, "# 2/3 a")
        self.assertEqual((effect(edit=("drop", 0), pipeline=HALF), needless(pipeline=HALF)), ("other all", ()))
        self.assertEqual((trimmed(pipeline=HALF), fewest_edits(other=HALF, pipeline=HALF)), (HALF, []))
        self.assertEqual(least_rate(kind="all", other=HALF, k=0, pipeline=HALF), (1, 2))

    def test_logs(self):
        log = (STREAM, (4,))
        self.assertEqual((form_of(pipeline=HALF), is_log(thing=log, keys=KEYS)), ((("user",), ("#",)), True))
        self.assertEqual((plain_form(form=((), ("#",))), plain_forms(keys=Keys(()))), ((("#",),), [(), ((),), (("#",),)]))
        self.assertEqual((covered(other=(), one=((),)), whole(keyset=(), form=((),))), (False, True))
        self.assertEqual((can_be(form=(), log=log, keys=KEYS), why_not(form=(), log=log, keys=KEYS)), (False, 0))
        self.assertEqual((parting(other=(), one=(), keys=KEYS), teaching(form=(), keys=KEYS)), (None, ((), ())))
        logs = Logs(logs=[log], keys=KEYS)
        self.assertEqual((logs.misfit(form=()), logs.surely(keyset=()), logs.chance(pipeline=HALF)[0] > 0), ((0, 0), True, True))

    def test_boards(self):
        board = Board(keys=KEYS)
        board["app"] = Sampler.of(KEYS, "user 1/2")
        board.retune(share=(1, 3), name="app")
        board.spend(budget=(1, 2))
        board.floor(kind="counts", pipeline=Pipeline.of(KEYS, "- 1/4"), name="f")
        self.assertEqual((board.floors[0][0], board.effect(sampler=board["app"], name="app")), ("f", "alike"))
        board.lift(name="f")
        self.assertEqual((board.sift(numbers=(), stream=()), board.attempt(deeds=())), ((), ()))
        board.spend(budget=(1, 1))
        self.assertIsNone(board.leave(name="app"))

    def test_texts_and_the_desk(self):
        self.assertEqual((fraction_text(fraction=(1, 2)), fraction_in(text="1/2")), ("1/2", (1, 2)))
        self.assertEqual((stream_text(stream=STREAM[:1]), stream_in(text="4: 1 1 5", keys=KEYS)), ("4: 1 1 5", STREAM[:1]))
        self.assertEqual((board_text(board=board_in(text=BOARD_TEXT, keys=KEYS)), answers(text="\nline")), (BOARD_TEXT, ["-"]))


class Copies(unittest.TestCase):
    def test_keys_copy(self):
        names, tells = ["b", "a"], [["a", "b"]]
        keys = Keys(names, tells)
        self.assertEqual((names, tells), (["b", "a"], [["a", "b"]]))
        names.append("c")
        tells[0][1] = "c"
        tells.append(["c", "a"])
        self.assertEqual((keys.names, keys.pairs, keys.told("a")), (("a", "b"), (("a", "b"),), ("b",)))

    def test_a_sampler_copies(self):
        names, rate = ["user"], [1, 2]
        sampler = Sampler(KEYS, names, rate)
        names[0], rate[0] = "city", 3
        self.assertEqual((sampler.keyset, sampler.rate), (("user",), (1, 2)))

    def test_a_pipeline_copies(self):
        samplers = [Sampler.of(KEYS, "user 1/2")]
        pipeline = Pipeline(KEYS, samplers)
        samplers.append(Sampler.of(KEYS, "# 1/2"))
        self.assertEqual((len(pipeline), pipeline.text, pipeline.share(("#",))), (1, "user 1/2", (1, 1)))

    def test_arguments_stay(self):
        names = ["user", "shop", "user"]
        KEYS.closed(names)
        self.assertEqual(names, ["user", "shop", "user"])
        keyset, other = ["city", "user"], ["city", "shop"]
        for call in (within, joint, common):
            call(keyset, other)
        below(KEYS, keyset)
        tops(KEYS, keyset)
        self.assertEqual((keyset, other), (["city", "user"], ["city", "shop"]))

    def test_streams_are_copied(self):
        records, numbers, kept = listed(STREAM), [[0, 1] for _ in range(5)], [4, 9]
        stream, parts, found = stream_of(KEYS, records), classes(KEYS, (), records), kept_by(HALF, records, numbers)
        for call in (coins, chance, chances):
            call(HALF, records)
        chance_of(HALF, records, kept)
        for question in QUESTIONS:
            (question.value(records), question.parts(records), answer(question, HALF, records), spread(question, HALF, records))
        self.assertEqual((records, numbers, kept), (listed(STREAM), [[0, 1]] * 5, [4, 9]))
        records[0][1][0] = 77
        records.pop()
        self.assertEqual((stream, parts, found), (STREAM, [STREAM], STREAM))

    def test_tables_joins_and_edits_change_nothing(self):
        asked, names, rate, table = [[1, 1] for _ in KEYS.keysets], ["user"], [1, 2], [[[4, 2]], None]
        keyset, stream, rights = ["user"], listed(STREAM), listed(RIGHTS)
        pipeline_by(KEYS, "counts", asked)
        moved(HALF, keyset, ["#"], rate)
        join = Join(HALF, JOIN.right, names)
        (join.spread(stream, rights, table), join.answer(stream, rights, table), join.value(stream, rights, table))
        (join.joined(stream, rights), join.apart(keyset), join.gain(keyset), crossing(join, keyset), join.best())
        edit = ["names", 0, names]
        found = edited(HALF, edit)
        self.assertEqual((names, rate, table, keyset, edit), (["user"], [1, 2], [[[4, 2]], None], ["user"], ["names", 0, ["user"]]))
        self.assertEqual((asked, stream, rights), ([[1, 1]] * 7, listed(STREAM), listed(RIGHTS)))
        names[0] = "city"
        self.assertEqual((join.keyset, found.text), (("user",), "user 1/2; # 2/3 a"))
        self.assertEqual(HALF.text, "user 1/2; # 2/3 a")

    def test_logs_are_copied(self):
        log, form, other = listed(LOG), listed(FORM), [["#"]]
        logs = Logs(KEYS, [log])
        (plain_form(form), covered(form, other), can_be(KEYS, log, form), why_not(KEYS, log, form), parting(KEYS, form, other))
        (parting(KEYS, other, form), teaching(KEYS, form), whole(form, ["user"]), logs.misfit(form), logs.surely(["user"]))
        self.assertEqual((log, form, other), (listed(LOG), listed(FORM), [["#"]]))
        log[0][0][1][0] = 77
        log[1].clear()
        self.assertEqual(logs[0], LOG)

    def test_deeds_are_copied(self):
        board, deeds = Board(KEYS), [["set", "a", Sampler.of(KEYS, "user 1/2")], ["retune", "a", [1, 3]], ["sift", listed(STREAM), [[0, 1], [1, 2]]]]
        board.attempt(deeds)
        self.assertEqual(deeds[1:], [["retune", "a", [1, 3]], ["sift", listed(STREAM), [[0, 1], [1, 2]]]])
        deeds[1][2][0] = deeds[2][1][0][1][0] = 5
        self.assertEqual((board["a"].rate, board.logs[0][0]), ((1, 3), STREAM))

    def test_operators_change_nothing(self):
        one, other = Pipeline.of(KEYS, "user 1/2; # 1/2"), Pipeline.of(KEYS, "user 1/3")
        (one & other, one | other, one >> other, one <= other, one < other, one == other, one.plain, one.salted("a"))
        self.assertEqual((one.text, other.text), ("user 1/2; # 1/2", "user 1/3"))

    def test_returned_lists_are_new(self):
        found = below(KEYS, ("city",))
        found.append("mine")
        self.assertEqual(below(KEYS, ("city",)), [(), ("city",)])
        none, one = Pipeline(KEYS), Pipeline.of(KEYS, "city 1/2; user 1/2")
        for call in (lambda: classes(KEYS, ("user",), STREAM), lambda: chances(HALF, STREAM), lambda: QUESTIONS[2].parts(STREAM),
                     lambda: moves(Pipeline.of(KEYS, "# 1/2"), Pipeline.of(KEYS, "- 1/2")), lambda: gap(HALF, none),
                     lambda: JOIN.joined(STREAM, RIGHTS), lambda: fewest_edits(HALF, none), lambda: plain_forms(KEYS),
                     Logs(KEYS, [LOG]).least_forms, lambda: answers("\nline"),
                     lambda: [corner.text for corner in corners(one, Pipeline.of(KEYS, "- 1/2"), "counts")]):
            once = call()
            again = list(once)
            once.clear()
            self.assertEqual(call(), again)


class Kinds(unittest.TestCase):
    def test_several_results_are_tuples_where_a_tuple_is_named(self):
        pipeline = Pipeline.of(KEYS, "user 1/2")
        for found in (KEYS.names, KEYS.pairs, KEYS.pairs[0], KEYS.keysets, KEYS.told("shop"), KEYS.closed(["user"]),
                      joint([], []), common([], []), tops(KEYS, ["city"]), pipeline.samplers, pipeline.share([]),
                      pipeline.together([]), pipeline.squares([]), pipeline[0].rate, pipeline[0].keyset):
            self.assertIs(type(found), tuple)
        self.assertIs(type(below(KEYS, [])), list)
        paper, grid = contrast(HALF, Pipeline(KEYS)), Grid(KEYS, ("user",), 2, 2)
        for found in (stream_of(KEYS, listed(STREAM)), stream_of(KEYS, listed(STREAM))[0][1], coins(HALF, listed(STREAM)),
                      coins(HALF, STREAM)[0], kept_by(HALF, listed(STREAM), [[0, 1]] * 5)[0][1], chance(HALF, listed(STREAM)),
                      classes(KEYS, [], listed(STREAM))[0], classes(KEYS, [], listed(STREAM))[0][0], chances(HALF, STREAM)[0],
                      chances(HALF, listed(STREAM))[0][0], agreement(KEYS, [1, [1, 1, 1]], [2, [1, 1, 1]]), grid.stream(),
                      values_of(KEYS, ["user"], [1, [1, 1, 1]]), grid.keyset, grid.record(0), grid.record(0)[1], grid.chance(HALF),
                      grid.margin(HALF, Pipeline(KEYS)), paper.keyset, paper.spreads, paper.spreads[0], paper.stream(),
                      paper.stream()[0][1], crowd(HALF, Pipeline(KEYS)).stream(), QUESTIONS[2].parts(STREAM)[0],
                      QUESTIONS[2].parts(STREAM)[0][0], answer(QUESTIONS[0], HALF, STREAM), both_ways(HALF, HALF),
                      numbers(HALF, "all"), numbers(HALF, "sums")[0], barrier(Pipeline.of(KEYS, "city 1/2; user 1/2"),
                      Pipeline.of(KEYS, "- 1/2"), "counts", True), moves(Pipeline.of(KEYS, "# 1/2"), Pipeline.of(KEYS, "- 1/2"))[0],
                      gap(HALF, Pipeline(KEYS))[0], JOIN.keyset, JOIN.shared, JOIN.gain([]), JOIN.chance([], []), JOIN.answer([], []),
                      JOIN.spread(STREAM, RIGHTS), JOIN.joined(STREAM, RIGHTS)[0], crossing(JOIN, ["user"]).spreads,
                      crossing(JOIN, ["user"]).asked, crossing(JOIN, ["user"]).asked[0][0], crossing(JOIN, ["user"]).streams(),
                      crossing(JOIN, ["user"]).streams()[1][0][1], needless(HALF), fewest_edits(HALF, Pipeline(KEYS))[0],
                      least_rate(HALF, 0, HALF, "all"), form_of(HALF), plain_form([["user"]]), plain_form([["user"]])[0], plain_forms(KEYS)[1],
                      plain_forms(KEYS)[2][0], parting(KEYS, [["user"]], [[]]), parting(KEYS, [["user"]], [[]])[0], parting(KEYS, [["user"]], [[]])[1],
                      parting(KEYS, [["user"]], [[]])[0][0][1], teaching(KEYS, [["user"]]), teaching(KEYS, [["user"]])[0], teaching(KEYS, [])[1],
                      Logs(KEYS, [listed(LOG)])[0], Logs(KEYS, [listed(LOG)])[0][0][0][1], Logs(KEYS, [LOG]).misfit([]), Logs(KEYS).alone(),
                      Logs(KEYS, [LOG]).least_forms()[0], Logs(KEYS, [LOG]).chance(HALF), fraction_in("1/2"), stream_in(KEYS, "4: 1 1 5"),
                      stream_in(KEYS, "4: 1 1 5")[0], stream_in(KEYS, "4: 1 1 5")[0][1], stream_in(KEYS, "")):
            self.assertIs(type(found), tuple)
        for found in (classes(KEYS, [], STREAM), chances(HALF, STREAM), QUESTIONS[6].parts(STREAM), corners(HALF, HALF, "all"),
                      moves(HALF, HALF), gap(HALF, Pipeline(KEYS)), JOIN.joined((), ()), fewest_edits(HALF, HALF),
                      plain_forms(KEYS), Logs(KEYS, [LOG]).least_forms(), answers("")):
            self.assertIs(type(found), list)

    def test_truths_are_truths(self):
        one = Pipeline.of(KEYS, "user 1/2")
        for found in (KEYS == KEYS, KEYS.tells("shop", "city"), "city" in KEYS, within((), ()), is_keyset(KEYS, ()),
                      one == one, one <= one, one < one, () in one, bool(one), one[0] == one[0], is_stream(KEYS, ()),
                      Grid(KEYS, (), 1, 1) == Grid(KEYS, (), 1, 1), Grid(KEYS, (), 1, 1).shows(one, one), surer_sums(one, one),
                      surer_counts(one, one), contrast(one, Pipeline(KEYS)) == contrast(one, Pipeline(KEYS)),
                      crowd(one, Pipeline(KEYS)) == crowd(one, Pipeline(KEYS)), JOIN == JOIN, crossing(JOIN, ["user"]) == crossing(JOIN, ["user"]),
                      is_log(KEYS, LOG), covered((), ()), can_be(KEYS, LOG, ()), whole((), ()), Logs(KEYS) == Logs(KEYS), Logs(KEYS).surely(()),
                      Board(KEYS) == Board(KEYS), Board(KEYS).undo(), "a" in Board(KEYS)):
            self.assertIs(type(found), bool)

    def test_equals_nothing_else(self):
        none = Pipeline(KEYS)
        things = [KEYS, Sampler.of(KEYS, "user 1/2"), HALF, Grid(KEYS, (), 1, 2), contrast(HALF, none), crowd(HALF, none),
                  JOIN, crossing(JOIN, ("user",)), Logs(KEYS), Board(KEYS), *QUESTIONS, None, 1, "user 1/2", ("user",)]
        for place, one in enumerate(things[:-4]):
            for other in things[:place] + things[place + 1:]:
                self.assertIs(one == other, False)
                self.assertIs(other != one, True)


class Bounds(unittest.TestCase):
    def test_returned_fractions_may_be_passed_in_again(self):
        pipeline = Pipeline.of(KEYS, "; ".join([f"user 1/1000 {salt}" for salt in "abcdefghijkl"]))
        share = pipeline.share(("user",))
        self.assertEqual(share, (1, 10 ** 36))
        self.assertEqual(Sampler(KEYS, ("user",), share).text, f"user 1/{10 ** 36}")
        self.assertEqual(pipeline.plain, pipeline)
        self.assertEqual(Pipeline.of(KEYS, pipeline.plain.text), pipeline)

    def test_long_texts(self):
        blanks = " " * 400
        line = f"{blanks}shop{blanks} tells city"
        self.assertEqual(Keys.of("\n".join([line] * 59 + ["user"])), KEYS)
        self.assertEqual(Pipeline.of(KEYS, f"{blanks}user{blanks}1/2;# 1/2{blanks}").text, "user 1/2; # 1/2")

    def test_somewhat_beyond(self):
        five = Keys(("a", "b", "c", "d", "e"), (("a", "e"),))
        self.assertEqual(len(five.keysets), 25)
        many = Pipeline.of(five, "; ".join(["a 1/2"] * 20))
        self.assertEqual((len(many), many.share(("a", "e"))), (20, (1, 2)))

    def test_mixed_keys_go_ahead(self):
        other = Keys(("city",))
        with self.assertRaises(MixedKeys):
            Pipeline(KEYS, [Sampler.of(other, "city 1/2")])
        with self.assertRaises(MixedKeys):
            Pipeline(KEYS) >> Pipeline(other)


if __name__ == "__main__":
    unittest.main()
