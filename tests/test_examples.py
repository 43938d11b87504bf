"""The examples of the document as they stand."""

import unittest

from examples import run_examples
from surershares import answers, errors, keys, samplers, streams, surer, thinner

KEYS = r"""
    >>> keys = Keys.of("user\nshop tells city")
    >>> keys.names, keys.pairs, keys.told("shop"), keys.closed(("user", "shop")), keys.closed(("user", "#"))
    (('city', 'shop', 'user'), (('shop', 'city'),), ('city',), ('city', 'shop', 'user'), ('#',))
    >>> keys.keysets
    ((), ('city',), ('user',), ('city', 'shop'), ('city', 'user'), ('city', 'shop', 'user'), ('#',))
    >>> within(("city",), ("city", "user")), within(("user",), ("city", "shop")), within(("#",), ("city",))
    (True, False, False)
    >>> joint(("user",), ("city", "shop")), common(("city", "user"), ("city", "shop")), common(("#",), ("user",))
    (('city', 'shop', 'user'), ('city',), ('user',))
    >>> below(keys, ("city", "user")), tops(keys, ("city", "shop", "user"))
    ([(), ('city',), ('user',), ('city', 'user')], ('shop', 'user'))
    >>> keyset_text(("city", "shop")), keyset_of(keys, "user+shop"), is_keyset(keys, ("shop",))
    ('city+shop', ('city', 'shop', 'user'), False)
"""

SAMPLERS = r"""
    >>> sampler = Sampler(keys, ("user", "shop"), (1, 4), salt="day")
    >>> sampler.keyset, sampler.text, sampler.at((1, 1)).text, sampler == Sampler.of(keys, " shop+user  1/4 day")
    (('city', 'shop', 'user'), 'city+shop+user 1/4 day', 'city+shop+user 1 day', True)
    >>> Sampler(keys, ("user",), (2, 4))
    raises BadShare(given=(2, 4))
    >>> one = Pipeline.of(keys, "user 1/2; user 1/4; user 1/2 day; # 1/10")
    >>> one.share(("user",)), one.share(("city", "user")), one.together(("city", "user")), one.together(("#",))
    ((1, 8), (1, 1), (1, 8), (1, 80))
    >>> [one.squares(keyset) for keyset in ((), ("city",), ("user",), ("city", "user"), ("#",))]
    [(1, 1), (0, 1), (7, 1), (0, 1), (72, 1)]
    >>> one.plain.text, one == one.plain, one >> one == one, (one >> one.salted("b")).plain.text
    ('user 1/8; # 1/10', True, True, 'user 1/64; # 1/100')
    >>> two = Pipeline.of(keys, "city+user 1/2; user 1/4")
    >>> one <= two, two <= one, (one & two).text, (one | two).text, ("city", "user") in two, ("user",) in two
    (False, False, 'user 1/8; city+user 1/2; # 1/10', 'user 1/4', True, True)
"""

STREAMS = r"""
    >>> keys = Keys(("day", "user"), ())
    >>> stream = stream_of(keys, [(1, (0, 5)), (2, (0, 5)), (3, (0, 6))])
    >>> agreement(keys, stream[0], stream[1]), agreement(keys, stream[0], stream[2]), agreement(keys, stream[2], stream[2])
    (('day', 'user'), ('day',), ('#',))
    >>> values_of(keys, ("user",), stream[2]), values_of(keys, (), stream[2]), values_of(keys, ("#",), stream[2])
    ((6,), (), (3,))
    >>> [len(part) for part in classes(keys, ("user",), stream)], len(classes(keys, (), stream))
    ([2, 1], 1)
    >>> both = Pipeline.of(keys, "user 1/2; # 1/3")
    >>> coins(both, stream)
    (('', ('user',), (5,)), ('', ('user',), (6,)), ('', ('#',), (1,)), ('', ('#',), (2,)), ('', ('#',), (3,)))
    >>> kept_by(both, stream, [(1, 4), (3, 4), (0, 1), (1, 2), (0, 1)])
    ((1, (0, 5)),)
    >>> kept_by(both, stream, [(1, 4), (1, 1)])
    raises BadNumbers(place=2)
    >>> chance(both, stream[:2]), chance(both, (stream[0], stream[2])), chance(both, ())
    ((1, 18), (1, 36), (1, 1))
    >>> chances(both, stream[:2])
    [((), (13, 18)), ((1,), (1, 9)), ((1, 2), (1, 18)), ((2,), (1, 9))]
    >>> chance_of(Pipeline.of(keys, "user 1/2"), stream, (1,)), coins(Pipeline.of(keys, "day 1/2 x; day 1/3 x; user 1"), stream)
    ((0, 1), (('x', ('day',), (0,)),))
    >>> stream_of(Keys(("shop", "user"), (("user", "shop"),)), [(1, (7, 5)), (2, (8, 5))])
    raises Unlawful(first=1, second=2, name='shop')
"""

THINNER = r"""
    >>> keys = Keys(("day", "user"), ())
    >>> half, fine = Pipeline.of(keys, "user 1/2"), Pipeline.of(keys, "user 1/4; # 1/3")
    >>> further(half, fine).text, half >> further(half, fine) == fine, first_over(half, fine), first_over(fine, half)
    ('user 1/2 a; # 1/3 a', True, None, ('user',))
    >>> further(fine, half)
    raises NotThinner(given=('user',))
    >>> single = Pipeline.of(keys, "# 1/2")
    >>> pair, three = grid_of(single, half), grid_of(half, single)
    >>> (pair.keyset, pair.n, pair.many, pair.margin(single, half)), (three.keyset, three.n, three.many, three.margin(half, single))
    ((('#',), 2, 1, (3, 2)), (('user',), 1, 3, (6, 5)))
    >>> pair.chance(half), pair.chance(single), three.chance(single), three.chance(half)
    ((1, 2), (1, 4), (7, 8), (1, 2))
    >>> pair.stream(), three.stream()
    (((0, (0, 0)), (1, (0, 0))), ((0, (0, 0)), (1, (1, 0)), (2, (2, 0))))
    >>> three.record(3)
    raises NoPlace(place=3)
    >>> wide = Grid(keys, ("user", "day"), 2, 2)
    >>> wide.keyset, wide.cells(), wide.size(), wide.record(5), wide.chance(half), wide.chance(single)
    (('day', 'user'), 4, 8, (5, (0, 1)), (1, 4), (81, 256))
    >>> wide.shows(half, single), wide.margin(half, single), grid_of(half, fine), Grid(keys, (), 1, 1).cells()
    (False, None, None, 1)
"""

ANSWERS = r"""
    >>> keys = Keys(("city", "shop", "user"), (("shop", "city"),))
    >>> stream = ((0, (1, 1, 5)), (1, (1, 1, 6)), (2, (1, 2, 5)))
    >>> users, records = Unlike(keys, ("user",)), Unlike(keys, ("#",))
    >>> users.value(stream), records.value(stream), Pairs(keys, ("city",)).value(stream), Crowds(keys, ("user",), 2).value(stream), Total(keys, "shop").value(stream)
    (2, 3, 3, 1, 4)
    >>> users.parts(stream), Crowds(keys, ("user",), 2).parts(stream)
    ([((0,), 1), ((1,), 1), ((2,), 1), ((0, 2), -1)], [((0, 2), 1)])
    >>> half, tenth = Pipeline.of(keys, "user 1/2"), Pipeline.of(keys, "# 1/2")
    >>> answer(users, half, stream), answer(users, tenth, stream), answer(users, tenth, stream[:1]), kept_mean(users, tenth, stream)
    ((4, 1), (2, 1), (2, 1), (5, 4))
    >>> two = ((0, (1, 1, 5)), (1, (2, 3, 5)))
    >>> spread(records, half, two), spread(records, tenth, two), spread(users, half, two)
    ((4, 1), (2, 1), (1, 1))
    >>> weight(half, users), weight(tenth, users), weight(tenth, Pairs(keys, ("city",))), weight(half, records)
    ((2, 1), None, (4, 1), (2, 1))
    >>> ((users * 2) - records).value(stream), (users * users).value(stream), users.text, question_of(keys, "crowds city+shop 3").text
    (1, 4, 'unlike user', 'crowds city+shop 3')
"""

SURER = r"""
    >>> user, switch, both = Pipeline.of(keys, "user 1/2"), Pipeline.of(keys, "- 1/2"), Pipeline.of(keys, "user 1/2; # 1/2")
    >>> compare(user, switch), compare(user, both), compare(switch, switch), compare(both, user), surer_counts(user, switch), surer_sums(switch, user)
    ('counts', 'all', 'alike', 'other all', True, False)
    >>> paper = contrast(user, switch)
    >>> paper.keyset, paper.many, paper.spreads, paper.stream(), contrast(user, both)
    (('user',), 1, ((2, 1), (0, 1)), ((0, (1, 1, 0)), (1, (2, 2, 1))), None)
    >>> crowd(switch, user).keyset, crowd(switch, user).many, crowd(switch, user).spreads, crowd(user, switch)
    ((), 2, ((4, 1), (2, 1)), None)
    >>> other = contrast(switch, user)
    >>> other.keyset, other.many, other.spreads
    ((), 2, ((4, 1), (2, 1)))
    >>> Contrast(user, both, ("user",), 1)
    raises NoContrast()
"""


class Examples(unittest.TestCase):
    def names(self):
        """All that the files of the package define, by name."""
        found = {}
        for module in (errors, keys, samplers, streams, thinner, answers, surer):
            found.update(vars(module))
        return found

    def test_keys_and_samplers(self):
        names = self.names()
        run_examples(self, KEYS, names)
        run_examples(self, SAMPLERS, names)

    def test_streams(self):
        run_examples(self, STREAMS, self.names())

    def test_thinner(self):
        run_examples(self, THINNER, self.names())

    def test_answers_and_surer(self):
        names = self.names()
        run_examples(self, ANSWERS, names)
        run_examples(self, SURER, names)


if __name__ == "__main__":
    unittest.main()
