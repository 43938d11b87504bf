"""The examples of the document as they stand."""

import unittest

from examples import run_examples
from surershares import answers, board, desk, edits, errors, joins, keys, logs, samplers, streams, surer, tables, texts, thinner

KEYS = r"""
    >>> keys = Keys.of("user\nshop tells city")
    >>> keys.names, keys.pairs, keys.told("shop"), keys.closed(("user", "shop")), keys.closed(("user", "#"))
    (('city', 'shop', 'user'), (('shop', 'city'),), ('city',), ('city', 'shop', 'user'), ('#',))
    >>> keys.keysets
    ((), ('city',), ('user',), ('city', 'shop'), ('city', 'user'), ('city', 'shop', 'user'), ('#',))
    >>> within(("city",), ("city", "user")), within(("user",), ("city", "shop")), within(("#",), ("city",))
    (True, False, False)
    >>> joint(("user",), ("city", "shop")), common(("city", "user"), ("city", "shop")), common(("#",), ("user",))
    (('city', 'shop', 'user'), ('city',), ('user',))
    >>> below(keys, ("city", "user")), tops(keys, ("city", "shop", "user"))
    ([(), ('city',), ('user',), ('city', 'user')], ('shop', 'user'))
    >>> keyset_text(("city", "shop")), keyset_of(keys, "user+shop"), is_keyset(keys, ("shop",))
    ('city+shop', ('city', 'shop', 'user'), False)
"""

SAMPLERS = r"""
    >>> sampler = Sampler(keys, ("user", "shop"), (1, 4), salt="day")
    >>> sampler.keyset, sampler.text, sampler.at((1, 1)).text, sampler == Sampler.of(keys, " shop+user  1/4 day")
    (('city', 'shop', 'user'), 'city+shop+user 1/4 day', 'city+shop+user 1 day', True)
    >>> Sampler(keys, ("user",), (2, 4))
    raises BadShare(given=(2, 4))
    >>> one = Pipeline.of(keys, "user 1/2; user 1/4; user 1/2 day; # 1/10")
    >>> one.share(("user",)), one.share(("city", "user")), one.together(("city", "user")), one.together(("#",))
    ((1, 8), (1, 1), (1, 8), (1, 80))
    >>> [one.squares(keyset) for keyset in ((), ("city",), ("user",), ("city", "user"), ("#",))]
    [(1, 1), (0, 1), (7, 1), (0, 1), (72, 1)]
    >>> one.plain.text, one == one.plain, one >> one == one, (one >> one.salted("b")).plain.text
    ('user 1/8; # 1/10', True, True, 'user 1/64; # 1/100')
    >>> two = Pipeline.of(keys, "city+user 1/2; user 1/4")
    >>> one <= two, two <= one, (one & two).text, (one | two).text, ("city", "user") in two, ("user",) in two
    (False, False, 'user 1/8; city+user 1/2; # 1/10', 'user 1/4', True, True)
"""

STREAMS = r"""
    >>> keys = Keys(("day", "user"), ())
    >>> stream = stream_of(keys, [(1, (0, 5)), (2, (0, 5)), (3, (0, 6))])
    >>> agreement(keys, stream[0], stream[1]), agreement(keys, stream[0], stream[2]), agreement(keys, stream[2], stream[2])
    (('day', 'user'), ('day',), ('#',))
    >>> values_of(keys, ("user",), stream[2]), values_of(keys, (), stream[2]), values_of(keys, ("#",), stream[2])
    ((6,), (), (3,))
    >>> [len(part) for part in classes(keys, ("user",), stream)], len(classes(keys, (), stream))
    ([2, 1], 1)
    >>> both = Pipeline.of(keys, "user 1/2; # 1/3")
    >>> coins(both, stream)
    (('', ('user',), (5,)), ('', ('user',), (6,)), ('', ('#',), (1,)), ('', ('#',), (2,)), ('', ('#',), (3,)))
    >>> kept_by(both, stream, [(1, 4), (3, 4), (0, 1), (1, 2), (0, 1)])
    ((1, (0, 5)),)
    >>> kept_by(both, stream, [(1, 4), (1, 1)])
    raises BadNumbers(place=2)
    >>> chance(both, stream[:2]), chance(both, (stream[0], stream[2])), chance(both, ())
    ((1, 18), (1, 36), (1, 1))
    >>> chances(both, stream[:2])
    [((), (13, 18)), ((1,), (1, 9)), ((1, 2), (1, 18)), ((2,), (1, 9))]
    >>> chance_of(Pipeline.of(keys, "user 1/2"), stream, (1,)), coins(Pipeline.of(keys, "day 1/2 x; day 1/3 x; user 1"), stream)
    ((0, 1), (('x', ('day',), (0,)),))
    >>> stream_of(Keys(("shop", "user"), (("user", "shop"),)), [(1, (7, 5)), (2, (8, 5))])
    raises Unlawful(first=1, second=2, name='shop')
"""

THINNER = r"""
    >>> keys = Keys(("day", "user"), ())
    >>> half, fine = Pipeline.of(keys, "user 1/2"), Pipeline.of(keys, "user 1/4; # 1/3")
    >>> further(half, fine).text, half >> further(half, fine) == fine, first_over(half, fine), first_over(fine, half)
    ('user 1/2 a; # 1/3 a', True, None, ('user',))
    >>> further(fine, half)
    raises NotThinner(given=('user',))
    >>> single = Pipeline.of(keys, "# 1/2")
    >>> pair, three = grid_of(single, half), grid_of(half, single)
    >>> (pair.keyset, pair.n, pair.many, pair.margin(single, half)), (three.keyset, three.n, three.many, three.margin(half, single))
    ((('#',), 2, 1, (3, 2)), (('user',), 1, 3, (6, 5)))
    >>> pair.chance(half), pair.chance(single), three.chance(single), three.chance(half)
    ((1, 2), (1, 4), (7, 8), (1, 2))
    >>> pair.stream(), three.stream()
    (((0, (0, 0)), (1, (0, 0))), ((0, (0, 0)), (1, (1, 0)), (2, (2, 0))))
    >>> three.record(3)
    raises NoPlace(place=3)
    >>> wide = Grid(keys, ("user", "day"), 2, 2)
    >>> wide.keyset, wide.cells(), wide.size(), wide.record(5), wide.chance(half), wide.chance(single)
    (('day', 'user'), 4, 8, (5, (0, 1)), (1, 4), (81, 256))
    >>> wide.shows(half, single), wide.margin(half, single), grid_of(half, fine), Grid(keys, (), 1, 1).cells()
    (False, None, None, 1)
"""

ANSWERS = r"""
    >>> keys = Keys(("city", "shop", "user"), (("shop", "city"),))
    >>> stream = ((0, (1, 1, 5)), (1, (1, 1, 6)), (2, (1, 2, 5)))
    >>> users, records = Unlike(keys, ("user",)), Unlike(keys, ("#",))
    >>> users.value(stream), records.value(stream), Pairs(keys, ("city",)).value(stream), Crowds(keys, ("user",), 2).value(stream), Total(keys, "shop").value(stream)
    (2, 3, 3, 1, 4)
    >>> users.parts(stream), Crowds(keys, ("user",), 2).parts(stream)
    ([((0,), 1), ((1,), 1), ((2,), 1), ((0, 2), -1)], [((0, 2), 1)])
    >>> half, tenth = Pipeline.of(keys, "user 1/2"), Pipeline.of(keys, "# 1/2")
    >>> answer(users, half, stream), answer(users, tenth, stream), answer(users, tenth, stream[:1]), kept_mean(users, tenth, stream)
    ((4, 1), (2, 1), (2, 1), (5, 4))
    >>> two = ((0, (1, 1, 5)), (1, (2, 3, 5)))
    >>> spread(records, half, two), spread(records, tenth, two), spread(users, half, two)
    ((4, 1), (2, 1), (1, 1))
    >>> weight(half, users), weight(tenth, users), weight(tenth, Pairs(keys, ("city",))), weight(half, records)
    ((2, 1), None, (4, 1), (2, 1))
    >>> ((users * 2) - records).value(stream), (users * users).value(stream), users.text, question_of(keys, "crowds city+shop 3").text
    (1, 4, 'unlike user', 'crowds city+shop 3')
"""

SURER = r"""
    >>> user, switch, both = Pipeline.of(keys, "user 1/2"), Pipeline.of(keys, "- 1/2"), Pipeline.of(keys, "user 1/2; # 1/2")
    >>> compare(user, switch), compare(user, both), compare(switch, switch), compare(both, user), surer_counts(user, switch), surer_sums(switch, user)
    ('counts', 'all', 'alike', 'other all', True, False)
    >>> paper = contrast(user, switch)
    >>> paper.keyset, paper.many, paper.spreads, paper.stream(), contrast(user, both)
    (('user',), 1, ((2, 1), (0, 1)), ((0, (1, 1, 0)), (1, (2, 2, 1))), None)
    >>> crowd(switch, user).keyset, crowd(switch, user).many, crowd(switch, user).spreads, crowd(user, switch)
    ((), 2, ((4, 1), (2, 1)), None)
    >>> other = contrast(switch, user)
    >>> other.keyset, other.many, other.spreads
    ((), 2, ((4, 1), (2, 1)))
    >>> Contrast(user, both, ("user",), 1)
    raises NoContrast()
"""

TABLES = r"""
    >>> keys = Keys(("day", "user"), ())
    >>> day, user, switch = Pipeline.of(keys, "day 1/2"), Pipeline.of(keys, "user 1/2"), Pipeline.of(keys, "- 1/2")
    >>> numbers(day, "counts"), numbers(user, "sums")
    (((1, 1), (1, 2), (1, 1), (1, 2), (1, 2)), ((1, 1), (0, 1), (1, 1), (0, 1), (0, 1)))
    >>> pipeline_by(keys, "sums", ((1, 1), (1, 1), (1, 1), (1, 1), (0, 1))).text
    'day 1/2; user 1/2'
    >>> pipeline_by(keys, "counts", ((1, 1), (1, 2), (1, 2), (1, 2), (1, 2)))
    raises NoPipeline(given=('day', 'user'))
    >>> least_above(day, user, "counts").text, least_above(day, user, "sums").text, least_above(day, user, "all").text
    ('day+user 1/2', '', '')
    >>> greatest_below(day, user, "counts"), barrier(day, user, "counts", False), greatest_below(day, user, "all").text
    (None, ('day', 'user'), 'day 1/2; user 1/2')
    >>> both = Pipeline.of(keys, "day 1/2; user 1/2")
    >>> barrier(both, switch, "counts", True), [corner.text for corner in corners(both, switch, "counts")], corners(day, user, "sums")
    (('day', 'user'), ['user 1/2', 'day 1/2'], [])
    >>> moved(Pipeline.of(keys, "user 1/8"), ("user",), ("day", "user"), (1, 2)).text, moves(user, both), gap(day, user) is None
    ('user 1/4; day+user 1/2', [], False)
    >>> moved(user, ("user",), ("day",), (1, 2))
    raises NotWithin(given=('day',))
    >>> three = Keys(("day", "shop", "user"), ())
    >>> p, q = Pipeline.of(three, "shop+user 1/2; day+user 1/2"), Pipeline.of(three, "user 1/2; day+shop+user 1/2")
    >>> compare(p, q), moves(p, q), gap(p, q) is None
    ('counts', None, False)
"""

JOINS = r"""
    >>> keys = Keys(("shop", "user"), ())
    >>> left, right = Pipeline.of(keys, "user 1/2; # 1/3"), Pipeline.of(keys, "user 1/4")
    >>> lefts, rights = ((0, (1, 7)), (1, (1, 8))), ((0, (2, 7)), (1, (3, 7)))
    >>> join = Join(left, right, ("user",))
    >>> join.joined(lefts, rights), join.value(lefts, rights), join.value(lefts, rights, (((0, 3),), None)), join.gain(("user",)), join.shared
    ([(0, 0), (0, 1)], 2, 6, (2, 1), (('user',),))
    >>> join.chance(lefts[:1], rights), join.chance(lefts, rights), join.answer(lefts[:1], rights[:1]), join.answer((), rights)
    ((1, 12), (1, 72), (12, 1), (0, 1))
    >>> join.spread(lefts, rights), join.apart(("user",)).spread(lefts, rights), crossing(join, ("user",)), join.best() == join
    ((44, 1), (92, 1), None, True)
    >>> wide = Join(left, right, ())
    >>> shown = crossing(wide, ("user",))
    >>> shown.n, shown.spreads, wide.best().shared, wide.apart(("user",)) == wide.best()
    (12, ((2172, 1), (2160, 1)), (), True)
    >>> shown.streams()[0][0], shown.streams()[1][1], shown.asked[0][:2]
    ((0, (13, 1)), (1, (26, 2)), ((0, 1), (1, -1)))
    >>> Join(left, right, ("user", "#"))
    raises NoName(name='#')
"""

EDITS = r"""
    >>> keys = Keys(("day", "user"), ())
    >>> three = Pipeline.of(keys, "user 1/2; user 1/4; # 1/2")
    >>> needless(three), trimmed(three).text, edited(three, ("salt", 0, "b")).text
    ((0,), 'user 1/4; # 1/2', 'user 1/2 b; user 1/4; # 1/2')
    >>> [effect(three, edit) for edit in (("drop", 0), ("drop", 1), ("salt", 0, "b"), ("names", 1, ("#",)))]
    ['alike', 'other all', 'all', 'other counts']
    >>> [len(fewest_edits(three, Pipeline.of(keys, text))) for text in ("user 1/2", "user 1/8; # 1/2", "user 1/4; # 1/2", "")]
    [2, 1, 0, 3]
    >>> two, floor = Pipeline.of(keys, "user 1/2; # 1/2"), Pipeline.of(keys, "user 1/4")
    >>> [least_rate(two, 1, floor, kind) for kind in ("all", "sums", "counts")], least_rate(two, 0, floor, "counts"), least_rate(two, 0, floor, "all")
    ([(1, 1), (1, 1), (1, 2)], (1, 2), None)
    >>> edited(two, ("drop", 2))
    raises NoPlace(place=2)
"""

LOGS = r"""
    >>> keys = Keys(("day", "user"), ())
    >>> day, user, both, each = ("day",), ("user",), ("day", "user"), ("#",)
    >>> form_of(Pipeline.of(keys, "user 1/2; # 1/3; day 1")), plain_form((day, user, both)), covered((day, user), (both,)), covered((both,), (day, user))
    ((('user',), ('#',)), (('day', 'user'),), True, False)
    >>> len(plain_forms(keys)), plain_forms(keys)[:3], plain_forms(keys)[-1]
    (7, [(), ((),), (('day',),)], (('day',), ('user',)))
    >>> log = (((1, (0, 5)), (2, (0, 6)), (3, (1, 5))), (2, 3))
    >>> can_be(keys, log, (both,)), can_be(keys, log, (day, user)), why_not(keys, log, (day, user)), can_be(keys, log, (each,))
    (True, False, 1, True)
    >>> len(parting(keys, (both,), (day, user))[0]), len(parting(keys, (user,), (day,))[0]), parting(keys, (user,), (both,)), parting(keys, ((),), ())[1]
    (3, 2, None, ())
    >>> logs = Logs(keys, [log, (((7, (2, 8)), (8, (2, 9))), (8,))])
    >>> logs.misfit((day, user)), logs.misfit((user,)), logs.least_forms(), logs.alone(), logs.surely(user), logs.surely(each)
    ((0, 1), (0, 1), [(('day', 'user'),)], (('day', 'user'), ('#',)), True, False)
    >>> logs.chance(Pipeline.of(keys, "day+user 1/2")), logs.chance(Pipeline.of(keys, "user 1/2")), whole(((), day), both), whole((day,), user)
    ((1, 32), (0, 1), True, False)
"""

BOARD = r"""
    >>> keys = Keys(("day", "user"))
    >>> board = Board(keys)
    >>> board["app"] = Sampler.of(keys, "user 1/2")
    >>> board += ("log", Sampler.of(keys, "# 1/2"))
    >>> board.floor("base", Pipeline.of(keys, "user 1/4; # 1/2"))
    >>> board.floor("few", Pipeline.of(keys, "- 1/4"), kind="counts")
    >>> board.cost, board.names, board.pipeline.text, board.effect("log", Sampler.of(keys, "user 1/2 b"))
    ((1, 4), ('app', 'log'), 'user 1/2; # 1/2', 'counts')
    >>> board.retune("app", (1, 5))
    raises Outside(name='base')
    >>> board.spend((1, 5))
    raises OverBudget(price=(1, 4))
    >>> board.attempt((("lift", "base"), ("retune", "app", (1, 5)), ("spend", (1, 8))))
    raises Stopped(number=1, word='Outside', held='few')
    >>> board.undo(), board.floors
    (True, (('base', 'all', 'user 1/4; # 1/2'),))
"""

TEXTS = r"""
    >>> keys = Keys(("day", "user"))
    >>> fraction_text((3, 1)), fraction_in("-2/3"), stream_in(keys, "7: 1 -4\n3: 1 5"), stream_text(((7, (1, -4)),))
    ('3', (-2, 3), ((7, (1, -4)), (3, (1, 5))), '7: 1 -4')
    >>> board_text(board_in(keys, "app: user 1/2\nbase counts - 1/2\nbudget 1/2")), board_text(Board(keys))
    ('app: user 1/2\nbase counts - 1/2\nbudget 1/2', 'budget 1')
    >>> board_in(keys, "app: user 1/2\nbudget 1/3")
    raises BadLine(number=1)
"""

DESK = r"""
    >>> answers("day\nuser\n\nput app user 1/2\nput log # 1/2\ncost\nchance user\nfloor base all user 1/4; # 1/2\nretune app 1/5\nspend 1/8\nbeside - 1/4\nplain\nundo\nline")
    ['done', 'done', '1/4', '1/8', 'done', 'refused Outside', 'refused OverBudget', 'counts', 'user 1/2; # 1/2', 'yes', 'user 1/2; # 1/2']
"""


class Examples(unittest.TestCase):
    def names(self):
        """All that the files of the package define, by name."""
        found = {}
        for module in (errors, keys, samplers, streams, thinner, answers, surer, tables, joins, edits, logs,
                       board, texts, desk):
            # What a file imports is left out: a name of the interface may be a helper's name elsewhere.
            own = {name: each for name, each in vars(module).items() if getattr(each, "__module__", "") == module.__name__}
            found.update(own)
        return found

    def test_keys_and_samplers(self):
        names = self.names()
        run_examples(self, KEYS, names)
        run_examples(self, SAMPLERS, names)

    def test_streams(self):
        run_examples(self, STREAMS, self.names())

    def test_thinner(self):
        run_examples(self, THINNER, self.names())

    def test_answers_and_surer(self):
        names = self.names()
        run_examples(self, ANSWERS, names)
        run_examples(self, SURER, names)

    def test_tables(self):
        run_examples(self, TABLES, self.names())

    def test_joins(self):
        run_examples(self, JOINS, self.names())

    def test_edits(self):
        run_examples(self, EDITS, self.names())

    def test_logs(self):
        run_examples(self, LOGS, self.names())

    def test_board(self):
        run_examples(self, BOARD, self.names())

    def test_texts(self):
        run_examples(self, TEXTS, self.names())

    def test_desk(self):
        run_examples(self, DESK, self.names())


if __name__ == "__main__":
    unittest.main()
