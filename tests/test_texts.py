"""[15] Texts of fractions, streams and boards."""

import itertools
import unittest
from fractions import Fraction

from surershares.board import Board
from surershares.errors import BadLine, BadText, Unlawful
from surershares.keys import Keys
from surershares.samplers import Pipeline, Sampler
from surershares.streams import is_stream
from surershares.texts import board_in, board_text, fraction_in, fraction_text, stream_in, stream_text
from test_keys import SHOPS, raised
from test_streams import BARE, DAY

TWO = Keys(("day", "user"))


class Fractions(unittest.TestCase):
    def test_both_ways(self):
        for top, bottom in itertools.product(range(-12, 13), range(1, 13)):
            one = Fraction(top, bottom)
            pair = (one.numerator, one.denominator)
            self.assertEqual(fraction_text(pair), str(one))
            self.assertEqual(fraction_in(str(one)), pair)
        self.assertEqual((fraction_text((0, 1)), fraction_text([-2, 3]), fraction_text((-7, 1))), ("0", "-2/3", "-7"))
        great = (-(10 ** 80), 3 ** 90)
        self.assertEqual(fraction_in(fraction_text(great)), great)

    def test_wrong_texts(self):
        for text in ("", "-", "/", "-0", "01", "-01", "2/4", "3/1", "0/1", "0/5", "1/0", "0/0", "1/", "/2", "1/02", "01/2", "1/-2", "-1/-2", "+1", "1 ",
                     " 1", "1 /2", "1/ 2", "1/2/3", "1//2", "--1", "1.5", "a", "1/a", "1_0", "\u0661", "\u00b2", "1\n", "1/2\n", "-1/", "3/-1", "6/3", "1e3"):
            with self.subTest(text=text):
                self.assertEqual(raised(self, BadText, fraction_in, text), {})

    def test_reads_just_what_is_written(self):
        for signs in itertools.product("-012/ ", repeat=4):
            text = "".join(signs).strip("_")
            try:
                found = fraction_in(text)
            except BadText:
                continue
            self.assertEqual(fraction_text(found), text)


class Streams(unittest.TestCase):
    def test_both_ways(self):
        for keys, stream, text in ((TWO, (), ""), (TWO, ((7, (1, -4)), (3, (1, 5))), "7: 1 -4\n3: 1 5"), (BARE, ((2, ()), (0, ())), "2:\n0:"),
                                   (DAY, ((0, (0,)),), "0: 0"), (DAY, ((10 ** 60, (-(10 ** 60),)),), f"{10 ** 60}: -{10 ** 60}"),
                                   (SHOPS, ((1, (1, 2, 3)), (5, (1, 2, 4))), "1: 1 2 3\n5: 1 2 4")):
            self.assertEqual((stream_text(stream), stream_in(keys, text)), (text, stream))
            self.assertTrue(is_stream(keys, stream_in(keys, text)))

    def test_wrong_lines(self):
        for line in ("", " ", "7", "7:", "7: 1", "7: 1 2 3", "7: 1  2", "7:  1 2", "7 : 1 2", " 7: 1 2", "7: 1 2 ", "7:1 2", "7: 1 2:", "7:: 1 2", "07: 1 2",
                     "-1: 1 2", "-0: 1 2", "7: -0 2", "7: 01 2", "7: +1 2", "7: 1/2 2", "7: a 2", ": 1 2", "7: 1\t2", "x: 1 2", "7: 1 \u0662", "7 1 2",
                     "7: 1 2\r", "--7: 1 2", "7: 1 --2", "7: - 2", "#: 1 2"):
            with self.subTest(line=line):
                if line != "":
                    self.assertEqual(raised(self, BadLine, stream_in, TWO, line), {"number": 0})
                self.assertEqual(raised(self, BadLine, stream_in, TWO, f"1: 1 2\n2: 1 2\n{line}\n1: 1 2"), {"number": 2})

    def test_numbers_that_stand_twice(self):
        self.assertEqual(raised(self, BadLine, stream_in, TWO, "1: 1 2\n2: 1 2\n1: 1 2"), {"number": 2})
        self.assertEqual(raised(self, BadLine, stream_in, TWO, "1: 1 2\n1: 1 2\n x"), {"number": 1})
        self.assertEqual(raised(self, BadLine, stream_in, TWO, "\n"), {"number": 0})
        self.assertEqual(raised(self, BadLine, stream_in, TWO, "1: 1 2\n"), {"number": 1})
        self.assertEqual(raised(self, BadLine, stream_in, BARE, "1: "), {"number": 0})

    def test_unlawful_behind_all_lines(self):
        text = "4: 1 7 5\n3: 2 7 5\n9: 3 7 5"
        self.assertEqual(raised(self, Unlawful, stream_in, SHOPS, text), {"first": 4, "second": 3, "name": "city"})
        self.assertEqual(raised(self, BadLine, stream_in, SHOPS, text + "\nx"), {"number": 3})
        self.assertEqual(raised(self, BadLine, stream_in, SHOPS, text + "\n4: 1 7 5"), {"number": 3})

    def test_reads_just_what_is_written(self):
        read = 0
        for signs in itertools.product("-01: \n", repeat=6):
            text = "".join(signs)
            try:
                found = stream_in(DAY, text)
            except BadLine:
                continue
            read += 1
            self.assertEqual(stream_text(found), text)
        self.assertGreater(read, 20)


def made(keys=TWO, services=(), floors=(), budget=(1, 1)):
    board = Board(keys)
    for name, text in services:
        board[name] = Sampler.of(keys, text)
    for name, kind, text in floors:
        board.floor(name, Pipeline.of(keys, text), kind=kind)
    board.spend(budget)
    return board


BOARDS = (
    (made(), "budget 1"),
    (made(services=[("app", "# 1/1000")], budget=(1, 1000)), "app: # 1/1000\nbudget 1/1000"),
    (made(services=[("b", "user 1/2 x"), ("a", "- 1"), ("budget", "day+user 3/4")], floors=[("budget", "sums", "user 1/2; day 1/3 b"), ("b", "all", "- 1/2; user 1/2 x; day+user 1/2")],
          budget=(1, 2)), "a: - 1\nb: user 1/2 x\nbudget: day+user 3/4\nb all - 1/2; user 1/2 x; day+user 1/2\nbudget sums user 1/2; day 1/3 b\nbudget 1/2"),
    (made(floors=[("none", "all", ""), ("nothing", "counts", "")]), "none all -\nnothing counts -\nbudget 1"),
    (made(SHOPS, [("s", "shop 1/2")], [("f", "all", "shop 1/2; # 1/3")], (3, 5)), "s: city+shop 1/2\nf all city+shop 1/2; # 1/3\nbudget 3/5"),
    (made(BARE, [("x", "- 1/2"), ("y", "# 2/3 abcdefgh")], (), (1, 3)), "x: - 1/2\ny: # 2/3 abcdefgh\nbudget 1/3"),
)


class Boards(unittest.TestCase):
    def test_both_ways(self):
        for board, text in BOARDS:
            self.assertEqual(board_text(board), text)
            found = board_in(board.schema, text)
            self.assertTrue(found == board)
            self.assertEqual((board_text(found), found.logs, found.undo()), (text, (), False))

    def test_without_logs(self):
        board = made(services=[("a", "user 1/2")])
        board.sift((), ())
        self.assertEqual(board_text(board), "a: user 1/2\nbudget 1")
        found = board_in(TWO, board_text(board))
        self.assertEqual((found.logs, found == board), ((), False))
        board.undo()
        self.assertTrue(found == board)

    def test_wrong_lines(self):
        ahead = "app: user 1/2\nbase counts - 1/4"
        for line in ("", " ", "zoo", "zoo:", "zoo: ", "zoo : user 1/2", "zoo:user 1/2", "zoo:  user 1/2", " zoo: user 1/2", "zoo: user 1/2 ", "zoo: user 2/4", "zoo: user",
                     "Zoo: user 1/2", "zoo: x 1/2", "zoo: user 1/2; # 1/2", "zoo: user+day 1/2", "toolongname: user 1/2", ": user 1/2", "zoo all", "zoo all ", "zoo  all user 1/2",
                     "zoo all  user 1/2", "zoo all user 1/2 ", "zoo all user 1/2;# 1/2", "zoo all user 1/2;  # 1/2", "zoo some user 1/8", "zoo All user 1/8", "zoo all x 1/8",
                     "Zoo all user 1/8", "zoo all user+day 1/8", "zoo all - ", "zoo all --", " all user 1/8", "all user 1/8", "budget", "budget ", " budget 1", "budget 1 ", "budget  1",
                     "budget 2/4", "budget 1/1", "budget 0", "budget 2", "budget -1", "budget 3/2", "budget 01", "Budget 1", "budget: 1", "budget x", "zoo 1", "budget\t1", "zoo all user 1/8\r"):
            with self.subTest(line=line):
                self.assertEqual(raised(self, BadLine, board_in, TWO, line), {"number": 0})
                self.assertEqual(raised(self, BadLine, board_in, TWO, f"{ahead}\n{line}\nbudget 1\nx"), {"number": 2})

    def test_lines_that_can_not_stand_there(self):
        for text, number in (("b: user 1/2\na: user 1/2\nbudget 1", 1), ("a: user 1/2\na: user 1/2\nbudget 1", 1), ("a all -\nb: user 1/2\nbudget 1", 1),
                             ("b counts - 1/2\na counts - 1/2\nbudget 1", 1), ("a counts - 1/2\na counts - 1/2\nbudget 1", 1),
                             ("a: user 1/2\nf all user 2/3\nbudget 1", 1), ("a: user 1/2\nf all -\nbudget 1", 1), ("a: user 1/2\nf sums - 1/2\nbudget 1", 1),
                             ("a: user 1/2\nb: # 1/2\nbudget 1/5", 2), ("a: user 1/2\nbudget 1/3", 1), ("budget 1\n", 1), ("budget 1\nbudget 1", 1), ("budget 1/2", 0),
                             ("budget 1\na: user 1/2", 1), ("budget 1\nf all -", 1), ("a: user 1/2\nf all user 1/2\nbudget 1/3\n", 2), ("budget 1\n\n", 1)):
            with self.subTest(text=text):
                self.assertEqual(raised(self, BadLine, board_in, TWO, text), {"number": number})

    def test_a_missing_budget(self):
        for text in ("a: user 1/2", "a: user 1/2\nb: user 1/2", "budget: user 1/2\nbudget all user 1/2", "f all -"):
            self.assertEqual(raised(self, BadLine, board_in, TWO, text), {"number": len(text.split("\n"))})
        self.assertEqual(raised(self, BadLine, board_in, TWO, ""), {"number": 0})

    def test_services_and_floors_may_have_the_same_names(self):
        text = "a: user 1/2\nbudget: user 1\na all user 1/2\nbudget counts - 1/2\nbudget 1/2"
        self.assertEqual(board_text(board_in(TWO, text)), text)
        self.assertEqual((board_in(TWO, text).names, [floor[0] for floor in board_in(TWO, text).floors]), (("a", "budget"), ["a", "budget"]))

    def test_floors_look_at_all_services(self):
        text = "a: user 1/2\nb: user 1/2\nf all user 1/2\nbudget 1/2"
        self.assertEqual(board_in(TWO, text).cost, (1, 2))

    def test_only_names_of_the_keys(self):
        self.assertEqual(raised(self, BadLine, board_in, SHOPS, "a: shop 1/2\nbudget 1"), {"number": 0})
        self.assertEqual(raised(self, BadLine, board_in, SHOPS, "f all shop 1/2\nbudget 1"), {"number": 0})
        self.assertEqual(raised(self, BadLine, board_in, SHOPS, "a: day 1/2\nbudget 1"), {"number": 0})

    def test_reads_just_what_is_written(self):
        lines = ["a: user 1/2", "b: # 1/2", "b: # 1/2 x", "a all user 1/4; # 1/2", "b sums - 1/16", "b counts - 1/3", "budget 1/4", "budget 1", "budget 1/2", ""]
        read = 0
        for many in range(5):
            for chosen in itertools.product(lines, repeat=many):
                text = "\n".join(chosen)
                try:
                    found = board_in(TWO, text)
                except BadLine:
                    continue
                read += 1
                self.assertEqual((board_text(found), found.undo()), (text, False))
        self.assertGreater(read, 10)


if __name__ == "__main__":
    unittest.main()
