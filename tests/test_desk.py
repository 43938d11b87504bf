"""[16] A desk: requests and their answers."""

import itertools
import unittest

from surershares.board import Board
from surershares.desk import answers
from surershares.errors import BadLine, NoFloor, NoService, Outside, OverBudget, Ringed
from surershares.keys import Keys, keyset_text
from surershares.samplers import Pipeline, Sampler
from surershares.streams import chance
from surershares.surer import compare
from surershares.texts import fraction_text
from surershares.thinner import Grid
from test_keys import EACH, raised

HEAD = "day\nuser\n\n"
TWO = Keys(("day", "user"))
SHOPS = "user\nshop tells city\n\n"


def asked(*requests, head=HEAD):
    return answers(head + "\n".join(requests))


class Requests(unittest.TestCase):
    def test_each_kind(self):
        self.assertEqual(asked("line", "plain", "cost"), ["-", "-", "1"])
        self.assertEqual(asked("put app user 1/2", "put log # 1/3 x", "line", "plain", "cost"),
                         ["done", "done", "user 1/2; # 1/3 x", "user 1/2; # 1/3", "1/6"])
        self.assertEqual(asked("put b user 1/2 x", "put a # 1/3", "line", "plain", "leave b", "line"),
                         ["done", "done", "# 1/3; user 1/2 x", "user 1/2; # 1/3", "done", "# 1/3"])
        self.assertEqual(asked("put a user 1", "line", "plain", "retune a 1/2", "line"), ["done", "user 1", "-", "done", "user 1/2"])
        self.assertEqual(asked("put a user 1/2", "put a user 1/3", "line"), ["done", "done", "user 1/3"])
        self.assertEqual(asked("undo", "put a user 1/2", "undo", "line", "undo"), ["no", "done", "yes", "-", "no"])

    def test_refused(self):
        self.assertEqual(asked("leave a", "lift a", "retune a 1/2"), ["refused NoService", "refused NoFloor", "refused NoService"])
        self.assertEqual(asked("put a user 1/2", "spend 1/2", "retune a 1", "leave a", "put b # 1/2", "spend 1/4", "spend 1/5", "line", "undo"),
                         ["done", "done", "refused OverBudget", "refused OverBudget", "done", "done", "refused OverBudget", "user 1/2; # 1/2", "yes"])
        self.assertEqual(asked("put a user 1/2", "floor f counts - 1/2", "floor g all - 1/2", "retune a 1/3", "put b # 1/2", "lift g", "lift f", "retune a 1/3", "lift f"),
                         ["done", "done", "refused Outside", "refused Outside", "refused Outside", "refused NoFloor", "done", "done", "refused NoFloor"])

    def test_a_refused_request_is_no_deed(self):
        self.assertEqual(asked("put a user 1/2", "spend 1/9", "leave b", "undo", "line", "undo"), ["done", "refused OverBudget", "refused NoService", "yes", "-", "no"])

    def test_floors(self):
        self.assertEqual(asked("put a user 1/2", "floor f all user 1/2; # 1/2 b", "retune a 1/3", "floor f sums user 1/3", "retune a 1/3"),
                         ["done", "done", "refused Outside", "done", "done"])

    def test_chance(self):
        requests = ["put a user 1/2", "put b day+user 1/3", "put c - 3/4", "put d # 1/5"]
        pipeline = Pipeline.of(TWO, "user 1/2; day+user 1/3; - 3/4; # 1/5")
        for keyset in TWO.keysets:
            if keyset == EACH:
                stream = ((0, (0, 0)),)
            else:
                stream = ((0, (0, 0)), (1, tuple(0 if name in keyset else 1 for name in TWO.names)))
            self.assertEqual(asked(*requests, f"chance {keyset_text(keyset)}")[-1], fraction_text(chance(pipeline, stream)))
        self.assertEqual(asked("chance -", "chance #", "chance user"), ["1", "1", "1"])
        self.assertEqual(asked("put a shop 1/2", head=SHOPS.replace("shop tells city", "shop")), ["done"])
        self.assertEqual(asked("put a city+shop 1/2", "put b city 1/3", "chance city", "chance city+shop", head=SHOPS), ["done", "done", "1/12", "1/6"])

    def test_beside(self):
        texts = ("user 1/2", "user 1/4", "- 1/2", "# 1/2 a", "user 1/2; # 1/2", "user 1", "day 1/2; user 1/2")
        for one, other in itertools.product(texts[:4], texts):
            self.assertEqual(asked(f"put a {one}", f"beside {other}")[1], compare(Pipeline.of(TWO, one), Pipeline.of(TWO, other)))
        self.assertEqual(asked("beside user 1", "beside user 1/2"), ["alike", "all"])

    def test_words_as_names(self):
        self.assertEqual(asked("put put user 1/2", "put line # 1/2", "leave put", "floor floor all # 1/2", "lift floor", "retune line 1", "line"),
                         ["done"] * 6 + ["# 1"])
        self.assertEqual(answers("tells\n\nput tells tells 1/2\nline"), ["done", "tells 1/2"])


class Texts(unittest.TestCase):
    def test_no_requests(self):
        for text in ("", "\n", "day\n", "shop tells city\n"):
            if text == "\n":
                self.assertEqual(raised(self, BadLine, answers, text), {"number": 1})
            else:
                self.assertEqual(answers(text), [])

    def test_no_names(self):
        self.assertEqual(answers("\nline\nput a # 1/2\nchance -\nchance #\ncost"), ["-", "done", "1/4", "1/2", "1/2"])
        self.assertEqual(answers("  \n\nput a - 1/2"), ["done"])
        self.assertEqual(raised(self, BadLine, answers, "\nput a user 1/2"), {"number": 1})

    def test_lines_of_the_keys(self):
        self.assertEqual(answers("  shop   tells city \n \nuser\n\nput a city+shop 1/2\nline"), ["done", "city+shop 1/2"])
        for head, number in (("Day", 0), ("day\nuser day", 1), ("a tells", 0), ("day\n \nx1\ny2", 2), ("put a user 1/2", 0)):
            self.assertEqual(raised(self, BadLine, answers, head + "\n\nline"), {"number": number})
            self.assertEqual(raised(self, BadLine, answers, head + "\n\nwrong"), {"number": number})
            self.assertEqual(raised(self, BadLine, answers, head), {"number": number})

    def test_without_an_empty_line(self):
        for text in ("day", "day\nuser", "day\nshop tells city\n ", " "):
            self.assertEqual(raised(self, BadLine, answers, text), {"number": len(text.split("\n"))})

    def test_rings(self):
        ring = "a tells b\nb tells a\nc tells a"
        for text in (ring, ring + "\n", ring + "\n\nwrong", ring + "\n\nline"):
            self.assertEqual(raised(self, Ringed, answers, text), {"ring": ("a", "b")})
        self.assertEqual(raised(self, BadLine, answers, ring + "\nX"), {"number": 3})
        self.assertEqual(raised(self, BadLine, answers, ring + "\nX\n\nline"), {"number": 3})

    def test_wrong_requests(self):
        for line in ("", " ", "Line", "line ", " line", "lines", "line x", "plain x", "cost 1", "undo 1", "undo ", "put", "put ", "put a", "put a ", "put a user", "put a  user 1/2",
                     "put  a user 1/2", "put a user  1/2", "put a user 1/2 ", " put a user 1/2", "put a user 2/4", "put a x 1/2", "put a user+day 1/2", "put A user 1/2", "put a user 1/2 A",
                     "put a user 1/2; # 1/2", "put toolongname user 1/2", "put a user 1/1", "leave", "leave ", "leave A", "leave a b", "leave  a", "leave a ", "lift", "lift 1", "lift a b",
                     "retune", "retune a", "retune a ", "retune a 2/4", "retune a 0", "retune a 2", "retune a 1/2 ", "retune a  1/2", "retune A 1/2", "retune a -1/2", "retune 1/2", "spend", "spend ",
                     "spend 0", "spend 3/2", "spend 01", "spend 1/1", "spend 1 ", "spend x", "spend -1", "floor", "floor f", "floor f all", "floor f all ", "floor f all -", "floor f some user 1/2",
                     "floor f user 1/2", "floor F all user 1/2", "floor f all user 1/2 ", "floor f all user 1/2;# 1/2", "floor f all  user 1/2", "floor f  all user 1/2", "floor f all x 1/2",
                     "floor f All user 1/2", "chance", "chance ", "chance x", "chance user+day", "chance day+user ", "chance  user", "chance day user", "chance user+user", "chance --",
                     "beside", "beside ", "beside -", "beside user", "beside user 1/2;", "beside ; user 1/2", "beside  user 1/2", "beside user 1/2 ;# 1/2", "beside x 1/2", "set a user 1/2",
                     "sift", "attempt", "zoo f all user 1/2", "Floor f all user 1/2", "effect a user 1/2", "deed", "deed a", "put\ta user 1/2", "line\r", "spend 1/2\u00a0"):
            with self.subTest(line=line):
                self.assertEqual(raised(self, BadLine, answers, HEAD + line), {"number": 3})
                self.assertEqual(raised(self, BadLine, answers, HEAD + "line\nspend 1/2\n" + line + "\nwrong"), {"number": 5})

    def test_an_empty_line_behind(self):
        self.assertEqual(raised(self, BadLine, answers, HEAD + "line\n"), {"number": 4})
        self.assertEqual(raised(self, BadLine, answers, HEAD + "\nline"), {"number": 3})

    def test_names_are_closed_as_written(self):
        self.assertEqual(raised(self, BadLine, answers, SHOPS + "put a shop 1/2"), {"number": 3})
        self.assertEqual(raised(self, BadLine, answers, SHOPS + "chance shop"), {"number": 3})
        self.assertEqual(raised(self, BadLine, answers, SHOPS + "beside shop 1/2"), {"number": 3})


class Model:
    """The desk by the methods of a Board alone."""

    def __init__(self):
        self.board = Board(TWO)

    def ask(self, line):
        try:
            return self.told(line.split(" "))
        except (NoService, NoFloor, Outside, OverBudget) as error:
            return f"refused {type(error).__name__}"

    def told(self, words):
        board, word, rest = self.board, words[0], words[1:]
        if word == "put":
            board[rest[0]] = Sampler.of(TWO, " ".join(rest[1:]))
        elif word in ("leave", "lift"):
            getattr(board, word)(rest[0])
        elif word in ("retune", "spend"):
            getattr(board, word)(*rest[:-1], self.share(rest[-1]))
        elif word == "floor":
            board.floor(rest[0], Pipeline.of(TWO, " ".join(rest[2:])), kind=rest[1])
        elif word == "undo":
            return "yes" if board.undo() else "no"
        else:
            return self.looked(word, rest)
        return "done"

    def share(self, text):
        top, _, bottom = text.partition("/")
        return (int(top), int(bottom or "1"))

    def looked(self, word, rest):
        pipeline = self.board.pipeline
        if word == "line":
            return pipeline.text or "-"
        if word == "plain":
            return pipeline.plain.text or "-"
        if word == "cost":
            return fraction_text(self.board.cost)
        if word == "beside":
            return compare(pipeline, Pipeline.of(TWO, " ".join(rest)))
        # A Grid of one cell with two RECORDs has them alike in just its KEYSET.
        keyset = {"-": (), "#": EACH}.get(rest[0], tuple(rest[0].split("+")))
        if keyset == EACH:
            return fraction_text(pipeline.together(EACH))
        return fraction_text(chance(pipeline, Grid(TWO, keyset, 1, 2).stream()))


class Drawn(unittest.TestCase):
    def test_as_a_board_that_is_asked(self):
        lines = ["put a user 1/2", "put b # 1/2", "put a - 2/3 x", "put c day+user 3/4", "leave a", "leave b", "lift f", "lift g", "retune a 1/3", "retune b 1", "spend 1/2", "spend 1",
                 "spend 1/7", "floor f all user 1/4; # 1/2", "floor g counts - 1/3", "floor f sums day 1/2; user 1/3", "line", "plain", "cost", "chance user", "chance -", "chance #",
                 "chance day+user", "beside - 1/4", "beside user 1/2; # 1/2", "undo", "undo"]
        state, met = 5, {}
        for _ in range(40):
            chosen = []
            for _ in range(40):
                state = (state * 1103515245 + 12345) % 2 ** 31
                chosen.append(lines[state // 65536 % len(lines)])
            model = Model()
            wanted = [model.ask(line) for line in chosen]
            self.assertEqual(asked(*chosen), wanted)
            met.update(dict.fromkeys(wanted))
        for word in ("done", "yes", "no", "refused NoService", "refused NoFloor", "refused Outside", "refused OverBudget"):
            self.assertIn(word, met)


if __name__ == "__main__":
    unittest.main()
