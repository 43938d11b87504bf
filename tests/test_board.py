"""[14] A board of samplers."""

import itertools
import unittest
from fractions import Fraction

from surershares.board import Board
from surershares.errors import (
    BadKind, BadNumbers, BadShare, MixedKeys, NoFloor, NoService, Outside, OverBudget, Stopped, Taken,
)
from surershares.keys import Keys
from surershares.samplers import Pipeline, Sampler
from surershares.streams import coins, kept_by
from surershares.surer import compare, surer_counts, surer_sums
from test_keys import EACH, raised
from test_samplers import BAD_SHARES
from test_streams import DAY

TWO = Keys(("day", "user"))
STREAM = ((1, (0, 5)), (2, (0, 6)), (3, (1, 5)))
NUMBERS = ((1, 4), (3, 4), (0, 1), (1, 4), (9, 10))
HOLDS = {"all": lambda one, floor: floor <= one, "sums": surer_sums, "counts": surer_counts}


def sampler(text, keys=TWO):
    return Sampler.of(keys, text)


def pipeline(text, keys=TWO):
    return Pipeline.of(keys, text)


def made():
    """The board of the example: two services, a floor, and a budget that is just met."""
    board = Board(TWO)
    board["log"] = sampler("# 1/2")
    board["app"] = sampler("user 1/2")
    board.floor("base", pipeline("user 1/4; # 1/2"))
    board.spend((1, 4))
    return board


def look(board):
    """All that a board tells, its history apart."""
    return (board.names, [board[name].text for name in board.names], board.budget, board.floors, board.logs, board.cost, board.pipeline.text)


def history(board):
    """What a board tells now, and behind each of its deeds that is taken back, one after the other; the board stays."""
    twin = board.twin()
    found = [look(twin)]
    while twin.undo():
        found.append(look(twin))
    return found


class Making(unittest.TestCase):
    def test_an_empty_board(self):
        for keys in (TWO, DAY, Keys(())):
            board = Board(keys)
            self.assertEqual(look(board), ((), [], (1, 1), (), (), (1, 1), ""))
            self.assertEqual((board.schema, len(board), "app" in board, board.undo()), (keys, 0, False, False))
            self.assertEqual(board.pipeline, Pipeline(keys))

    def test_services(self):
        board = made()
        self.assertEqual((board.names, len(board), "app" in board, "base" in board), (("app", "log"), 2, True, False))
        self.assertEqual((board["app"], board["log"]), (sampler("user 1/2"), sampler("# 1/2")))
        self.assertEqual((board.pipeline.text, board.cost, board.budget), ("user 1/2; # 1/2", (1, 4), (1, 4)))
        for name in ("x", "budget", "base"):
            self.assertEqual(raised(self, NoService, board.__getitem__, name), {"name": name})

    def test_the_pipeline_is_by_name(self):
        board = Board(TWO)
        for name in ("c", "a", "b", "aa"):
            board[name] = sampler(f"user 1/2 {name}")
        self.assertEqual(board.pipeline.text, "user 1/2 a; user 1/2 aa; user 1/2 b; user 1/2 c")
        self.assertEqual((board.cost, board.names), ((1, 16), ("a", "aa", "b", "c")))

    def test_can_not_be_gone_through(self):
        for board in (Board(TWO), made()):
            for call in (iter, list, tuple, lambda each: [name for name in each]):
                with self.assertRaises(TypeError):
                    call(board)

    def test_properties_have_no_setter(self):
        board = made()
        for name in ("names", "schema", "pipeline", "cost", "budget", "floors", "logs"):
            with self.assertRaises(AttributeError):
                setattr(board, name, None)


class Deeds(unittest.TestCase):
    def stays(self, board, wanted, call, *values, **named):
        """The attributes of the error that the call raises, behind which all is as it was, for undo too."""
        before = history(board)
        found = raised(self, wanted, lambda: call(*values, **named))
        self.assertEqual(history(board), before)
        return found

    def test_set(self):
        board = made()
        board["app"] = sampler("user 1/3")
        self.assertEqual((board.pipeline.text, board.cost), ("user 1/3; # 1/2", (1, 6)))
        board["zoo"] = sampler("- 1")
        self.assertEqual(board.names, ("app", "log", "zoo"))

    def test_set_in_order(self):
        board = made()
        self.assertEqual(self.stays(board, MixedKeys, board.__setitem__, "app", sampler("day 1", DAY)), {})
        # Above the budget and outside of the floor: the budget goes ahead.
        self.assertEqual(self.stays(board, OverBudget, board.__setitem__, "app", sampler("day 1")), {"price": (1, 2)})
        self.assertEqual(self.stays(board, Outside, board.__setitem__, "app", sampler("user 1/5")), {"name": "base"})
        self.assertEqual(self.stays(board, Outside, board.__setitem__, "new", sampler("user 1/5")), {"name": "base"})
        self.assertEqual(self.stays(board, OverBudget, board.__setitem__, "log", sampler("# 1")), {"price": (1, 2)})

    def test_join(self):
        board = made()
        same = board
        board += ("new", sampler("user 1/2"))
        self.assertIs(board, same)
        self.assertEqual((board.names, board.cost), (("app", "log", "new"), (1, 4)))
        board += ["more", sampler("- 1")]
        self.assertEqual(len(board), 4)

    def test_join_in_order(self):
        board = made()
        self.assertEqual(self.stays(board, MixedKeys, board.__iadd__, ("app", sampler("day 1", DAY))), {})
        self.assertEqual(self.stays(board, Taken, board.__iadd__, ("app", sampler("user 1"))), {"name": "app"})
        self.assertEqual(self.stays(board, Taken, board.__iadd__, ("app", sampler("user 1/2"))), {"name": "app"})
        self.assertEqual(self.stays(board, Outside, board.__iadd__, ("base", sampler("- 1/2"))), {"name": "base"})
        self.assertEqual(raised(self, OverBudget, self.tight().__iadd__, ("x", sampler("- 1"))), {"price": (1, 4)})

    def tight(self):
        """A board on which each deed is above the budget, as its cost is."""
        board = made()
        board._limit = (1, 5)
        return board

    def test_leave(self):
        board = made()
        self.assertEqual(self.stays(board, NoService, board.leave, "base"), {"name": "base"})
        self.assertEqual(self.stays(board, OverBudget, board.leave, "app"), {"price": (1, 2)})
        board.spend((1, 2))
        self.assertIsNone(board.leave("app"))
        self.assertEqual((board.names, board.cost, board.floors[0][0]), (("log",), (1, 2), "base"))
        self.assertEqual(self.stays(board, NoService, board.leave, "app"), {"name": "app"})

    def test_retune(self):
        board = made()
        self.assertIsNone(board.retune("app", (1, 3)))
        self.assertEqual(board["app"].text, "user 1/3")
        board.retune("app", [1, 4])
        self.assertEqual((board["app"].text, board.cost), ("user 1/4", (1, 8)))
        salted = Board(TWO)
        salted["a"] = sampler("day+user 1/2 x")
        salted.retune("a", (2, 3))
        self.assertEqual(salted["a"].text, "day+user 2/3 x")

    def test_retune_in_order(self):
        board = made()
        self.assertEqual(self.stays(board, NoService, board.retune, "x", (2, 4)), {"name": "x"})
        for given in BAD_SHARES:
            self.assertEqual(self.stays(board, BadShare, board.retune, "app", given), {"given": given})
            self.assertEqual(self.stays(board, BadShare, board.retune, "app", list(given)), {"given": given})
        self.assertEqual(self.stays(board, OverBudget, board.retune, "app", (3, 5)), {"price": (3, 10)})
        self.assertEqual(self.stays(board, Outside, board.retune, "app", (1, 5)), {"name": "base"})

    def test_spend(self):
        board = made()
        self.assertIsNone(board.spend((1, 3)))
        self.assertEqual(board.budget, (1, 3))
        board.spend([1, 4])
        self.assertEqual(board.budget, (1, 4))
        self.assertEqual(self.stays(board, OverBudget, board.spend, (249, 1000)), {"price": (1, 4)})
        for given in BAD_SHARES:
            self.assertEqual(self.stays(board, BadShare, board.spend, given), {"given": given})
        # No share is looked at ahead of the cost.
        self.assertEqual(self.stays(board, BadShare, board.spend, [2, 1000]), {"given": (2, 1000)})

    def test_floor(self):
        board = made()
        self.assertIsNone(board.floor("few", pipeline("- 1/8"), kind="counts"))
        self.assertEqual(board.floors, (("base", "all", "user 1/4; # 1/2"), ("few", "counts", "- 1/8")))
        board.floor("base", pipeline("user 1/2; # 1/2 x; day 1"), kind="sums")
        self.assertEqual(board.floors[0], ("base", "sums", "user 1/2; # 1/2 x; day 1"))
        with self.assertRaises(TypeError):
            board.floor("x", pipeline("- 1/8"), "all")

    def test_floor_in_order(self):
        board = made()
        other = Pipeline(Keys(TWO.names, (("day", "user"),)))
        self.assertEqual(self.stays(board, MixedKeys, board.floor, "base", other, kind="x"), {})
        for kind in ("", "All", "alike", "other all"):
            self.assertEqual(self.stays(board, BadKind, board.floor, "base", pipeline(""), kind=kind), {"given": kind})
        self.assertEqual(self.stays(board, Outside, board.floor, "new", pipeline("")), {"name": "new"})
        self.assertEqual(self.stays(board, Outside, board.floor, "base", pipeline("user 51/100; # 1/2")), {"name": "base"})
        self.assertEqual(self.stays(board, Outside, board.floor, "aa", pipeline("user 1/2"), kind="counts"), {"name": "aa"})

    def test_a_floor_that_just_holds(self):
        for kind in ("all", "sums", "counts"):
            board = made()
            board.floor("same", board.pipeline, kind=kind)
            self.assertEqual(self.stays(board, Outside, board.retune, "app", (499, 1000)), {"name": "same"})
            board.floor("same", Pipeline.of(TWO, "user 499/1000; # 1/2"), kind=kind)
            board.retune("app", (499, 1000))

    def test_kinds_differ(self):
        board = Board(TWO)
        board["one"] = sampler("user 1/2")
        self.assertEqual(compare(board.pipeline, pipeline("- 1/2")), "counts")
        board.floor("few", pipeline("- 1/2"), kind="counts")
        for kind in ("all", "sums"):
            self.assertEqual(self.stays(board, Outside, board.floor, "x", pipeline("- 1/2"), kind=kind), {"name": "x"})
        other = Board(TWO)
        other["one"] = sampler("day+user 1/2")
        other.floor("sum", pipeline("day 1/2; user 1/2"), kind="sums")
        self.assertEqual(raised(self, Outside, other.floor, "x", pipeline("day 1/2; user 1/2")), {"name": "x"})

    def test_the_first_floor_by_name(self):
        board = made()
        for name in ("c", "a", "b"):
            board.floor(name, pipeline("user 1/2; # 1/2"), kind="counts")
        self.assertEqual(self.stays(board, Outside, board.retune, "app", (1, 5)), {"name": "a"})
        board.lift("a")
        self.assertEqual(self.stays(board, Outside, board.retune, "app", (1, 3)), {"name": "b"})

    def test_a_floor_without_samplers(self):
        board = Board(TWO)
        board.floor("none", Pipeline(TWO))
        self.assertEqual(board.floors, (("none", "all", "-"),))
        self.assertEqual(self.stays(board, Outside, board.__setitem__, "a", sampler("# 1/2")), {"name": "none"})
        board["a"] = sampler("# 1")

    def test_lift(self):
        board = made()
        self.assertEqual(self.stays(board, NoFloor, board.lift, "app"), {"name": "app"})
        self.assertIsNone(board.lift("base"))
        self.assertEqual(board.floors, ())
        self.assertEqual(self.stays(board, NoFloor, board.lift, "base"), {"name": "base"})

    def test_names_of_all_kinds_do_not_mix(self):
        board = Board(TWO)
        board["budget"] = sampler("user 1/2")
        board.floor("budget", pipeline("user 1/2"))
        self.assertEqual((board.names, board.floors), (("budget",), (("budget", "all", "user 1/2"),)))
        board.lift("budget")
        self.assertEqual(board.names, ("budget",))

    def test_effect(self):
        board = made()
        before = history(board)
        for text in ("user 1", "user 1/2", "user 1/3", "- 1/2", "day 1/2", "user 1/2 b", "# 1/2", "day+user 1/2"):
            for name in ("app", "log", "new"):
                services = {each: board[each] for each in board.names}
                services[name] = sampler(text)
                after = Pipeline(TWO, [services[each] for each in sorted(services)])
                self.assertEqual(board.effect(name, sampler(text)), compare(board.pipeline, after))
        self.assertEqual(history(board), before)
        self.assertEqual(self.stays(board, MixedKeys, board.effect, "app", sampler("day 1", DAY)), {})

    def test_sift(self):
        board = made()
        kept = board.sift(STREAM, NUMBERS)
        self.assertEqual(kept, kept_by(board.pipeline, STREAM, NUMBERS))
        self.assertEqual((kept, board.logs), (((1, (0, 5)),), ((STREAM, kept),)))
        again = board.sift([list(record) for record in STREAM], [list(number) for number in NUMBERS])
        self.assertEqual((again, board.logs), (kept, ((STREAM, kept), (STREAM, kept))))
        self.assertEqual(board.sift((), ()), ())
        self.assertEqual(board.logs[2], ((), ()))

    def test_sift_with_wrong_numbers(self):
        board = made()
        many = len(coins(board.pipeline, STREAM))
        self.assertEqual(self.stays(board, BadNumbers, board.sift, STREAM, NUMBERS[:4]), {"place": 4})
        self.assertEqual(self.stays(board, BadNumbers, board.sift, STREAM, NUMBERS + NUMBERS), {"place": many})
        self.assertEqual(self.stays(board, BadNumbers, board.sift, STREAM, NUMBERS[:3] + ((1, 1), (-1, 2))), {"place": 3})

    def test_a_cost_equal_to_the_budget(self):
        board = made()
        self.assertEqual(board.cost, board.budget)
        board["app"] = sampler("user 1/2")
        board["new"] = sampler("- 1")
        board.spend((1, 4))
        board.leave("new")
        board.retune("log", (1, 2))
        self.assertEqual((board.cost, board.budget), ((1, 4), (1, 4)))


class Attempts(unittest.TestCase):
    def test_returns_what_each_returns(self):
        board = made()
        found = board.attempt((("set", "new", sampler("- 1")), ("sift", STREAM, NUMBERS), ("retune", "app", (1, 3)), ("spend", (1, 2)),
                               ("lift", "base"), ("floor", "few", pipeline("- 1/9"), "counts"), ("leave", "app")))
        self.assertEqual(found, (None, ((1, (0, 5)),), None, None, None, None, None))
        self.assertEqual((board.names, board.budget, board.floors), (("log", "new"), (1, 2), (("few", "counts", "- 1/9"),)))
        self.assertEqual(board.logs, ((STREAM, ((1, (0, 5)),)),))

    def test_lists_count_as_tuples(self):
        board = made()
        self.assertEqual(board.attempt([["retune", "app", [1, 3]], ["sift", [], []], ["spend", [1, 2]]]), (None, (), None))
        self.assertEqual((board["app"].rate, board.budget), ((1, 3), (1, 2)))

    def test_is_one_deed(self):
        board = made()
        before = history(board)
        board.attempt((("retune", "app", (1, 3)), ("retune", "app", (1, 4)), ("lift", "base"), ("sift", (), ())))
        self.assertEqual(history(board)[1:], before)
        self.assertIs(board.undo(), True)
        self.assertEqual(history(board), before)

    def test_without_deeds(self):
        board = made()
        before = history(board)
        self.assertEqual(board.attempt(()), ())
        self.assertEqual(history(board), before[:1] + before)
        self.assertEqual((board.undo(), history(board)), (True, before))

    def test_stopped(self):
        other = sampler("day 1", DAY)
        good = (("retune", "app", (1, 3)), ("sift", STREAM, NUMBERS))
        for deed, word, held in (
                (("set", "app", other), "MixedKeys", None), (("set", "app", sampler("user 1/5")), "Outside", "base"),
                (("set", "app", sampler("user 1")), "OverBudget", (1, 2)), (("leave", "x"), "NoService", "x"),
                (("leave", "app"), "OverBudget", (1, 2)), (("retune", "x", (2, 4)), "NoService", "x"),
                (("retune", "app", (2, 4)), "BadShare", (2, 4)), (["retune", "app", [2, 4]], "BadShare", (2, 4)),
                (("retune", "app", (1, 9)), "Outside", "base"), (("spend", (0, 1)), "BadShare", (0, 1)),
                (("spend", (1, 9)), "OverBudget", (1, 6)), (("floor", "x", Pipeline(DAY), "x"), "MixedKeys", None),
                (("floor", "x", pipeline(""), "x"), "BadKind", "x"), (("floor", "x", pipeline(""), "all"), "Outside", "x"),
                (("lift", "x"), "NoFloor", "x"), (("sift", STREAM, NUMBERS[1:]), "BadNumbers", 4),
                (("sift", STREAM, NUMBERS[:4] + ((1, 1),)), "BadNumbers", 4)):
            with self.subTest(deed=deed):
                board = made()
                before = history(board)
                self.assertEqual(raised(self, Stopped, board.attempt, (*good, deed)), {"number": 2, "word": word, "held": held})
                self.assertEqual(history(board), before)

    def test_the_first_that_fails_decides(self):
        board = made()
        self.assertEqual(raised(self, Stopped, board.attempt, (("leave", "x"), ("lift", "y"))), {"number": 0, "word": "NoService", "held": "x"})
        deeds = (("lift", "base"), ("retune", "app", (1, 9)), ("leave", "x"))
        self.assertEqual(raised(self, Stopped, board.attempt, deeds), {"number": 2, "word": "NoService", "held": "x"})

    def test_each_deed_is_held_to_budget_and_floors(self):
        # That the next deed would set it right does not help.
        board = made()
        deeds = (("retune", "app", (1, 1)), ("retune", "log", (1, 4)))
        self.assertEqual(raised(self, Stopped, board.attempt, deeds), {"number": 0, "word": "OverBudget", "held": (1, 2)})


class Undo(unittest.TestCase):
    def test_each_kind_of_deed(self):
        deeds = (lambda board: board.__setitem__("app", sampler("user 1/3")), lambda board: board.__setitem__("new", sampler("- 1")),
                 lambda board: board.__iadd__(("new", sampler("- 1"))), lambda board: (board.spend((1, 2)), board.leave("app")),
                 lambda board: board.retune("app", (1, 3)), lambda board: board.spend((1, 3)),
                 lambda board: board.floor("x", pipeline("- 1/9"), kind="counts"), lambda board: board.floor("base", pipeline("user 1/8; # 1/2")),
                 lambda board: board.lift("base"), lambda board: board.sift(STREAM, NUMBERS), lambda board: board.attempt(()),
                 lambda board: board.attempt((("lift", "base"), ("spend", (1, 1)))))
        for deed in deeds:
            board = made()
            before = history(board)
            deed(board)
            self.assertGreater(len(history(board)), len(before))
            while len(history(board)) > len(before):
                self.assertIs(board.undo(), True)
            self.assertEqual(history(board), before)

    def test_a_deed_that_changes_nothing_is_one(self):
        for deed in (lambda board: board.__setitem__("app", board["app"]), lambda board: board.retune("app", (1, 2)),
                     lambda board: board.spend((1, 4)), lambda board: board.floor("base", pipeline("user 1/4; # 1/2"))):
            board = made()
            before = history(board)
            deed(board)
            self.assertEqual(history(board), before[:1] + before)

    def test_nothing_to_take_back(self):
        board = made()
        self.assertEqual([board.undo() for _ in range(6)], [True, True, True, True, False, False])
        self.assertEqual(look(board), look(Board(TWO)))
        board["a"] = sampler("user 1/2")
        self.assertEqual((board.undo(), board.undo(), board.names), (True, False, ()))

    def test_a_failed_deed_is_none(self):
        board = made()
        raised(self, OverBudget, board.spend, (1, 9))
        raised(self, NoService, board.leave, "x")
        raised(self, Stopped, board.attempt, (("lift", "base"), ("lift", "base")))
        self.assertEqual((board.undo(), board.budget), (True, (1, 1)))

    def test_what_is_undone_is_gone(self):
        board = made()
        board.undo()
        board.retune("app", (1, 3))
        board.undo()
        self.assertEqual(board.budget, (1, 1))
        board.undo()
        self.assertEqual(board.floors, ())


class Twins(unittest.TestCase):
    def test_never_change_one_another(self):
        board = made()
        before = history(board)
        twin = board.twin()
        self.assertEqual((history(twin), twin == board), (before, True))
        twin.retune("app", (1, 3))
        twin.sift((), ())
        twin.lift("base")
        self.assertEqual(history(board), before)
        after = history(twin)
        board.undo()
        board.undo()
        board["zoo"] = sampler("day 1/2")
        self.assertEqual(history(twin), after)

    def test_undo_of_a_twin(self):
        board = made()
        twin = board.twin()
        while twin.undo():
            pass
        self.assertEqual((look(twin), board.budget), (look(Board(TWO)), (1, 4)))
        self.assertEqual(history(board), history(made()))

    def test_of_an_empty_board(self):
        twin = Board(TWO).twin()
        self.assertEqual((twin == Board(TWO), twin.undo()), (True, False))


class Equal(unittest.TestCase):
    def test_whatever_the_way(self):
        board, other = made(), Board(Keys.of("user\nday"))
        other.floor("base", pipeline("user 1/8"))
        other["app"] = sampler("user 1/2")
        other.floor("base", pipeline("user 1/4; # 1/2"))
        other["log"] = sampler("# 1/2")
        self.assertIs(board == other, False)
        other.spend((1, 4))
        self.assertIs(board == other, True)
        self.assertIs(board != other, False)

    def test_unlike(self):
        changes = (lambda each: each.retune("app", (1, 3)), lambda each: each.spend((1, 3)), lambda each: each.lift("base"),
                   lambda each: each.sift((), ()), lambda each: each.__setitem__("new", sampler("- 1")),
                   lambda each: each.__setitem__("app", sampler("user 1/2 a")), lambda each: each.floor("new", pipeline("user 1/4; # 1/2")),
                   lambda each: each.floor("base", pipeline("# 1/2; user 1/4")), lambda each: each.floor("base", pipeline("user 1/4; # 1/2"), kind="sums"),
                   lambda each: (each.floor("base", pipeline("user 1/2; # 1/2")), each.floor("base", pipeline("user 1/2; # 1/2; day 1"))))
        for change in changes:
            board = made()
            change(board)
            self.assertIs(board == made(), False)
            self.assertIs(board != made(), True)
            while board.undo() and board != made():
                pass
            self.assertIs(board == made(), True)

    def test_other_things(self):
        for other in (None, TWO, "", ("app", "log"), Pipeline(TWO), Board(DAY), Board(Keys(TWO.names, (("day", "user"),)))):
            self.assertIs(Board(TWO) == other, False)

    def test_floors_by_their_texts(self):
        one, other = Board(TWO), Board(TWO)
        one.floor("a", pipeline("user 1/2"))
        other.floor("a", Pipeline(TWO, [Sampler(TWO, ["user"], [1, 2])]))
        self.assertIs(one == other, True)
        other.floor("a", pipeline("user 1/2; # 1"))
        self.assertIs(one == other, False)


class Model:
    """A board as plain as can be: each state is a value of its own."""

    def __init__(self):
        self.states = [({}, (1, 1), {}, ())]

    def do(self, deed):
        services, budget, floors, logs = self.states[-1]
        services, floors = dict(services), dict(floors)
        word, *rest = deed
        if word == "undo":
            return len(self.states) > 1 and bool(self.states.pop())
        if word == "attempt":
            trial = Model()
            trial.states = list(self.states)
            for number, each in enumerate(rest[0]):
                found = trial.do(each)
                if isinstance(found, tuple):
                    return ("Stopped", number, *found)
            self.states.append(trial.states[-1])
            return None
        if word in ("leave", "retune") and rest[0] not in services:
            return ("NoService", rest[0])
        if word == "add" and rest[0] in services:
            return ("Taken", rest[0])
        if word == "lift" and rest[0] not in floors:
            return ("NoFloor", rest[0])
        if word in ("set", "add"):
            services[rest[0]] = rest[1]
        elif word == "leave":
            del services[rest[0]]
        elif word == "retune":
            services[rest[0]] = services[rest[0]].at(rest[1])
        elif word == "spend":
            budget = rest[0]
        elif word == "floor":
            floors[rest[0]] = (rest[1], rest[2])
        elif word == "lift":
            del floors[rest[0]]
        kept = Pipeline(TWO, [services[name] for name in sorted(services)])
        if Fraction(*kept.together(EACH)) > Fraction(*budget):
            return ("OverBudget", kept.together(EACH))
        for name in sorted(floors):
            if not HOLDS[floors[name][1]](kept, floors[name][0]):
                return ("Outside", name)
        self.states.append((services, budget, floors, logs))
        return None


def deed_on(board, deed):
    """What a deed on a board leads to, as the model tells it."""
    word, *rest = deed
    try:
        if word == "undo":
            return board.undo()
        if word == "set":
            board[rest[0]] = rest[1]
        elif word == "add":
            board += tuple(rest)
        elif word == "floor":
            board.floor(rest[0], rest[1], kind=rest[2])
        elif word == "attempt":
            board.attempt(rest[0])
        else:
            getattr(board, word)(*rest)
    except Stopped as error:
        return ("Stopped", error.number, error.word, error.held)
    except (NoService, NoFloor, Taken, Outside) as error:
        return (type(error).__name__, error.name)
    except OverBudget as error:
        return ("OverBudget", error.price)
    return None


class Drawn(unittest.TestCase):
    """Guarantee (g): behind any deeds the cost is at most the budget, and each floor holds."""

    def draw(self, many):
        self.state = (self.state * 1103515245 + 12345) % 2 ** 31
        return self.state // 65536 % many

    def pick(self, rows):
        return rows[self.draw(len(rows))]

    def deed(self, depth=0):
        names, shares = ("a", "b", "c"), ((1, 1), (1, 2), (2, 3), (1, 4), (9, 10))
        texts = ("user 1/2", "# 1/2", "day 2/3", "- 1/2", "day+user 3/4 s", "user 1")
        word = self.pick(("set", "add", "leave", "retune", "spend", "floor", "floor", "lift", "undo", "attempt"))
        if word in ("set", "add") and depth == 0 or word == "set":
            return (word, self.pick(names), sampler(self.pick(texts)))
        if word in ("leave", "lift"):
            return (word, self.pick(names))
        if word == "retune":
            return (word, self.pick(names), self.pick(shares))
        if word == "spend":
            return (word, self.pick(shares))
        if word == "floor" or depth > 0:
            return ("floor", self.pick(names), pipeline("; ".join(self.pick(texts) for _ in range(1 + self.draw(4)))), self.pick(("all", "sums", "counts")))
        return ("undo",) if word == "undo" else ("attempt", tuple(self.deed(1) for _ in range(self.draw(4))))

    def test_drawn_deeds(self):
        self.state = 11
        words = {}
        for _ in range(25):
            board, model = Board(TWO), Model()
            for _ in range(60):
                deed = self.deed()
                found = deed_on(board, deed)
                self.assertEqual(found, model.do(deed))
                words[found[0] if isinstance(found, tuple) else found] = True
                services, budget, floors, _ = model.states[-1]
                self.assertEqual((board.names, board.budget), (tuple(sorted(services)), budget))
                self.assertTrue(all(board[name] == services[name] for name in services))
                self.assertEqual(board.floors, tuple((name, floors[name][1], floors[name][0].text) for name in sorted(floors)))
                self.assertLessEqual(Fraction(*board.cost), Fraction(*board.budget))
                self.assertTrue(all(HOLDS[kind](board.pipeline, floor) for floor, kind in floors.values()))
            while len(model.states) > 1:
                self.assertEqual((board.undo(), model.do(("undo",))), (True, True))
                self.assertEqual(board.names, tuple(sorted(model.states[-1][0])))
            self.assertEqual(look(board), look(Board(TWO)))
        self.assertEqual(set(words), {None, True, False, "Stopped", "NoService", "NoFloor", "Taken", "OverBudget", "Outside"})


class Copies(unittest.TestCase):
    def test_what_is_handed_in_is_copied(self):
        board = made()
        stream, numbers, budget, share = [[number, list(values)] for number, values in STREAM], [list(each) for each in NUMBERS], [1, 2], [1, 3]
        board.sift(stream, numbers)
        board.spend(budget)
        board.retune("app", share)
        self.assertEqual((stream[0], numbers, budget, share), ([1, [0, 5]], [list(each) for each in NUMBERS], [1, 2], [1, 3]))
        stream[0][1][0], budget[0], share[0] = 9, 7, 7
        self.assertEqual((board.logs[0][0], board.budget, board["app"].rate), (STREAM, (1, 2), (1, 3)))

    def test_kinds(self):
        board = made()
        board.sift([[1, [0, 5]]], [[0, 1], [0, 1]])
        for found in (board.names, board.floors, board.floors[0], board.logs, board.logs[0], board.logs[0][0], board.logs[0][0][0],
                      board.logs[0][0][0][1], board.logs[0][1], board.cost, board.budget, board.attempt([]), board.sift([], [])):
            self.assertIs(type(found), tuple)
        self.assertEqual([type(found) for found in (board.undo(), "app" in board, board == board)], [bool] * 3)


if __name__ == "__main__":
    unittest.main()
