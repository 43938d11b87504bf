"""[9] Which Pipeline is surer, and the papers that show where it is not."""

import itertools
import unittest
from fractions import Fraction

from surershares.answers import Crowds, Lots, Total, Unlike, Worths, answer, spread
from surershares.errors import MixedKeys, NoContrast, NoCrowd, NoName, TooLong
from surershares.keys import Keys, tops
from surershares.samplers import Pipeline
from surershares.streams import chances, is_stream
from surershares.surer import Contrast, Crowd, both_ways, compare, contrast, crowd, surer_counts, surer_sums
from test_keys import CHAIN, EACH, SHOPS, raised
from test_streams import BARE, DAY, STREAM, pair

TWO = Keys(("day", "user"))
TEXTS = ("", "- 1/2", "user 1/2", "# 1/2", "day+user 1/2", "user 1/2; # 1/2", "- 1/2; # 1/2", "user 1/4", "user 1/2 a; user 1/2",
         "day 1/2; user 1/2", "day 1/2", "- 1/4; user 3/4", "# 1/4", "day+user 1/2; # 1/2", "user 1/3; # 3/4", "day 2/3; # 2/3")
PIPELINES = [Pipeline.of(TWO, text) for text in TEXTS]
PAIRS = list(itertools.product(PIPELINES, repeat=2))
BACK = {"alike": "alike", "neither": "neither", "all": "other all", "sums": "other sums", "counts": "other counts",
        "other all": "all", "other sums": "sums", "other counts": "counts"}


def contrast_by_hand(keys, names, many):
    """The STREAM and the worths of a Contrast, as the document writes them."""
    keyset = keys.closed(names)
    if keyset == EACH:
        return ((0, (0,) * len(keys)), (1, (0,) * len(keys))), ((0, 1), (1, -1))
    heads = tops(keys, keyset)
    stream, worths = [], []
    for cell in range(2 ** len(heads)):
        bits = {name: cell // 2 ** place % 2 for place, name in enumerate(heads)}
        for _ in range(many):
            number = len(stream)
            stream.append((number, tuple(bits.get(name, 0 if name in keyset else number + 1) for name in keys.names)))
            worths.append((number, 1 if sum(bits.values()) % 2 == 0 else -1))
    return tuple(stream), tuple(worths)


def crowd_by_hand(keys, names, many):
    """The STREAM of a Crowd, as the document writes it."""
    keyset = keys.closed(names)
    inside = keys.names if keyset == EACH else keyset
    return tuple((number, tuple(0 if name in inside else number + 1 for name in keys.names)) for number in range(many))


def spread_by_hand(question, pipeline, stream):
    """The average square of the answer less the square of the value, over all that can be kept."""
    found = -Fraction(question.value(stream)) ** 2
    for kept, each in chances(pipeline, stream):
        told = Fraction(*answer(question, pipeline, tuple(record for record in stream if record[0] in kept)))
        found += Fraction(*each) * told * told
    return pair(found)


def streams():
    """Some STREAMs in which the records are alike in many ways."""
    rows = list(itertools.product((0, 1), repeat=2))
    return [tuple(enumerate(picked)) for picked in itertools.combinations_with_replacement(rows, 3)]


class Surer(unittest.TestCase):
    def test_by_the_numbers(self):
        for p, q in PAIRS:
            sums = all(Fraction(*p.squares(keyset)) <= Fraction(*q.squares(keyset)) for keyset in TWO.keysets)
            counts = all(Fraction(*p.together(keyset)) >= Fraction(*q.together(keyset)) for keyset in TWO.keysets)
            self.assertIs(surer_sums(p, q), sums)
            self.assertIs(surer_counts(p, q), counts)
            self.assertTrue(counts or not sums)
            self.assertTrue(sums or not q <= p)

    def test_by_drawn_worths(self):
        # Guarantee (d), for sums and counts: what surer means for worths of all kinds.
        all_worths = list(itertools.product((-2, 0, 1), repeat=3)) + [(1, 1, 1), (5, 1, 2)]
        for stream in streams()[::3]:
            for worths in all_worths:
                question = Worths(list(enumerate(worths)))
                spreads = [Fraction(*spread(question, pipeline, stream)) for pipeline in PIPELINES]
                for (one, p), (other, q) in itertools.product(enumerate(PIPELINES), repeat=2):
                    if surer_sums(p, q) or (surer_counts(p, q) and min(worths) >= 0):
                        self.assertLessEqual(spreads[one], spreads[other])

    def test_what_is_not_surer_is_shown(self):
        for p, q in PAIRS:
            paper, other = contrast(p, q), crowd(p, q)
            self.assertIs(paper is None, surer_sums(p, q))
            self.assertIs(other is None, surer_counts(p, q))
            for shown in (paper, other):
                if shown is not None:
                    found = tuple(spread(shown.question(), pipeline, shown.stream()) for pipeline in (p, q))
                    self.assertEqual(found, shown.spreads)
                    self.assertGreater(Fraction(*found[0]), Fraction(*found[1]))

    def test_all_questions(self):
        # For every question exactly if the other one is thinner: a count of pairs parts the others.
        for p, q in PAIRS:
            questions = [Lots(((tuple(range(many)), 1),)) for many in (1, 2, 3)] + [Crowds(TWO, ("user",), 2)]
            questions += [Unlike(TWO, keyset) for keyset in TWO.keysets] + [Unlike(TWO, ("user",)) * Total(TWO, "day")]
            if q <= p:
                for question, stream in itertools.product(questions, streams()[::4]):
                    self.assertLessEqual(Fraction(*spread(question, p, stream)), Fraction(*spread(question, q, stream)))

    def test_surer_for_sums_alone_is_not_for_all_questions(self):
        p, q = Pipeline.of(TWO, "day+user 1/2"), Pipeline.of(TWO, "day 1/2; user 1/2")
        self.assertTrue(surer_sums(p, q))
        # Two days, four users: eight coins of the one, six of the other.
        stream = tuple(enumerate(itertools.product((0, 1), (0, 1, 2, 3))))
        question = Lots(((tuple(range(8)), 1),))
        self.assertEqual([spread(question, each, stream) for each in (p, q)], [(255, 1), (63, 1)])

    def test_spreads_of_a_count(self):
        p, q = Pipeline.of(SHOPS, "user 1/2"), Pipeline.of(SHOPS, "- 1/2")
        self.assertTrue(surer_counts(p, q))
        self.assertEqual([spread(Unlike(SHOPS, EACH), each, STREAM) for each in (p, q)], [(10, 1), (16, 1)])

    def test_both_ways_only_if_alike(self):
        for p, q in PAIRS:
            for surer in (surer_sums, surer_counts):
                self.assertIs(surer(p, q) and surer(q, p), p == q)

    def test_mixed_keys(self):
        p, q = Pipeline.of(TWO, "user 1/2"), Pipeline.of(Keys(("day", "user"), (("user", "day"),)), "day 1/2")
        for call in (surer_sums, surer_counts, compare, contrast, crowd, both_ways):
            self.assertEqual(raised(self, MixedKeys, call, p, q), {})
            self.assertEqual(raised(self, MixedKeys, call, q, p), {})
        for kind in (Contrast, Crowd):
            self.assertEqual(raised(self, MixedKeys, kind, p, q, ("x",), 1), {})

    def test_another_set_of_keys(self):
        texts = ("", "- 1/2", "city 1/2", "shop 1/2", "user 1/2; # 1/3", "city+user 1/2", "city 1/2 a; city 1/2", "shop+user 1/4")
        for p, q in itertools.product([Pipeline.of(SHOPS, text) for text in texts], repeat=2):
            for shown in (contrast(p, q), crowd(p, q)):
                if shown is not None:
                    stream = shown.stream()
                    self.assertTrue(is_stream(SHOPS, stream))
                    self.assertEqual(tuple(spread(shown.question(), each, stream) for each in (p, q)), shown.spreads)


class Comparing(unittest.TestCase):
    def test_words(self):
        cases = (("user 1/2", "user 1/2 a; # 1", "alike"), ("user 1/2", "user 1/2; # 1/2", "all"), ("", "- 1/2", "all"),
                 ("# 1/2", "- 1/2", "counts"), ("day 1/2", "user 1/2", "neither"), ("# 1/2", "day+user 1/3", "counts"),
                 ("day+user 1/2", "day 1/2; user 1/2", "sums"), ("# 1/4", "user 1/2; # 1/2", "counts"))
        for one, other, word in cases:
            p, q = Pipeline.of(TWO, one), Pipeline.of(TWO, other)
            with self.subTest(one=one, other=other):
                self.assertEqual((compare(p, q), compare(q, p)), (word, BACK[word]))

    def test_by_what_it_means(self):
        met = set()
        for p, q in PAIRS:
            word = compare(p, q)
            met.add(word)
            self.assertEqual(compare(q, p), BACK[word])
            if p == q:
                wanted = "alike"
            elif q <= p or p <= q:
                wanted = "all" if q <= p else "other all"
            elif surer_sums(p, q) or surer_sums(q, p):
                wanted = "sums" if surer_sums(p, q) else "other sums"
            elif surer_counts(p, q) or surer_counts(q, p):
                wanted = "counts" if surer_counts(p, q) else "other counts"
            else:
                wanted = "neither"
            self.assertEqual(word, wanted)
        self.assertEqual(met, set(BACK))


class Contrasts(unittest.TestCase):
    def test_all_small_ones_by_hand(self):
        pairs = [each for each in PAIRS if each[0] != each[1]][::5]
        for keyset, many in itertools.product(TWO.keysets, (1, 2, 3)):
            if keyset == EACH and many > 1:
                continue
            stream, worths = contrast_by_hand(TWO, keyset, many)
            for p, q in pairs:
                spreads = tuple(spread(Worths(worths), each, stream) for each in (p, q))
                if Fraction(*spreads[0]) <= Fraction(*spreads[1]):
                    self.assertEqual(raised(self, NoContrast, Contrast, p, q, keyset, many), {})
                    continue
                paper = Contrast(p, q, keyset, many)
                self.assertEqual((paper.keyset, paper.many, paper.size(), paper.spreads), (keyset, many, len(stream), spreads))
                self.assertEqual(paper.stream(), stream)
                self.assertIs(type(paper.question()), Worths)
                for records in (stream, stream[:1], stream[1:]):
                    self.assertEqual(paper.question().value(records), Worths(worths).value(records))
                if len(stream) <= 4:
                    self.assertEqual(spreads, tuple(spread_by_hand(Worths(worths), each, stream) for each in (p, q)))

    def test_tops_and_other_names(self):
        keys = Keys(("a", "b", "c", "d"), (("b", "a"),))
        stream, worths = contrast_by_hand(keys, ("b", "c"), 2)
        paper = Contrast(Pipeline.of(keys, "b+c 1/2"), Pipeline(keys), ["c", "b"], 2)
        self.assertEqual((paper.keyset, paper.size(), paper.stream()), (("a", "b", "c"), 8, stream))
        self.assertEqual(paper.stream()[3:5], ((3, (0, 1, 0, 4)), (4, (0, 0, 1, 5))))
        self.assertEqual([paper.question().value((record,)) for record in stream], [1, 1, -1, -1, -1, -1, 1, 1])
        self.assertEqual(dict(worths), {record[0]: paper.question().value((record,)) for record in stream})

    def test_the_record_itself(self):
        paper = Contrast(Pipeline.of(TWO, "# 1/3"), Pipeline(TWO), EACH, 1)
        self.assertEqual((paper.keyset, paper.size(), paper.spreads), (EACH, 2, ((4, 1), (0, 1))))
        self.assertEqual((paper.stream(), paper.question().parts(paper.stream())), (((0, (0, 0)), (1, (0, 0))), [((0,), 1), ((1,), -1)]))

    def test_no_names(self):
        paper = Contrast(Pipeline.of(TWO, "- 1/2"), Pipeline(TWO), (), 3)
        self.assertEqual((paper.size(), paper.stream(), paper.spreads), (3, ((0, (1, 1)), (1, (2, 2)), (2, (3, 3))), ((9, 1), (0, 1))))
        self.assertEqual(paper.question().value(paper.stream()), 3)
        bare = contrast(Pipeline.of(BARE, "- 1/2"), Pipeline.of(BARE, "# 1/4"))
        self.assertEqual((bare.keyset, bare.many, bare.stream()), ((), 4, ((0, ()), (1, ()), (2, ()), (3, ()))))

    def test_first_keyset_and_least_number(self):
        for keys, texts in ((TWO, TEXTS), (SHOPS, ("city 1/2", "shop 1/2", "user 1/2; # 1/3", "- 9/10; # 1/2", "city+user 1/2", "# 1/9"))):
            for p, q in itertools.product([Pipeline.of(keys, text) for text in texts], repeat=2):
                over = [keyset for keyset in keys.keysets if Fraction(*p.squares(keyset)) > Fraction(*q.squares(keyset))]
                paper = contrast(p, q)
                if not over:
                    self.assertIsNone(paper)
                    continue
                self.assertEqual(paper.keyset, over[0])
                self.assertEqual(paper, Contrast(p, q, over[0], paper.many))
                if paper.many > 1:
                    self.assertEqual(raised(self, NoContrast, Contrast, p, q, over[0], paper.many - 1), {})

    def test_errors_in_order(self):
        p, q = Pipeline.of(TWO, "user 1/2"), Pipeline(TWO)
        self.assertEqual(raised(self, NoName, Contrast, q, p, ("#", "y", "x"), 2), {"name": "y"})
        self.assertEqual(raised(self, NoContrast, Contrast, q, p, ("user",), 1), {})
        self.assertEqual(raised(self, NoContrast, Contrast, p, p, ("user",), 1), {})
        # p's spread would be the greater one, but two records never have one number.
        self.assertEqual(raised(self, NoContrast, Contrast, Pipeline.of(TWO, "# 1/2"), q, EACH, 2), {})

    def test_great_numbers(self):
        p = Pipeline.of(SHOPS, "user 998/999")
        q = Pipeline.of(SHOPS, "user 999/1000; # 1/1000; # 1/1000 a; # 1/1000 b; # 1/1000 c")
        paper = contrast(p, q)
        self.assertEqual(paper.keyset, ("user",))
        d = Fraction(999, 998) - Fraction(1000, 999)
        s = Fraction(1000, 999) * (10 ** 12 - 1)
        self.assertEqual(paper.many, s // d + 1)
        self.assertEqual(paper.size(), 2 * paper.many)
        self.assertGreater(Fraction(*paper.spreads[0]), Fraction(*paper.spreads[1]))
        self.assertEqual(raised(self, NoContrast, Contrast, p, q, ("user",), paper.many - 1), {})
        for call in (paper.stream, paper.question):
            self.assertEqual(raised(self, TooLong, call), {"length": 2 * paper.many})

    def test_just_too_long(self):
        p, q = Pipeline.of(TWO, "user 1/2"), Pipeline(TWO)
        paper = Contrast(p, q, ("user",), 500)
        self.assertEqual((len(paper.stream()), paper.question().value(paper.stream())), (1000, 0))
        self.assertEqual(spread(paper.question(), p, paper.stream()), paper.spreads[0])
        paper = Contrast(p, q, ("user",), 501)
        for call in (paper.stream, paper.question):
            self.assertEqual(raised(self, TooLong, call), {"length": 1002})
        both = Contrast(Pipeline.of(TWO, "day+user 1/2"), q, ("day", "user"), 250)
        self.assertEqual((both.size(), len(both.stream())), (1000, 1000))
        both = Contrast(Pipeline.of(TWO, "day+user 1/2"), q, ("day", "user"), 251)
        self.assertEqual(raised(self, TooLong, both.stream), {"length": 1004})

    def test_equal(self):
        p, q = Pipeline.of(TWO, "user 1/2"), Pipeline(TWO)
        paper = Contrast(p, q, ("user",), 2)
        self.assertTrue(paper == Contrast(Pipeline.of(Keys.of(TWO.text), "user 1/2 a"), Pipeline(TWO), ["user"], 2))
        told = Keys(TWO.names, (("day", "user"),))
        others = (Contrast(p, q, ("user",), 3), Contrast(Pipeline.of(TWO, "user 1/3"), q, ("user",), 2),
                  Contrast(Pipeline.of(told, "user 1/2"), Pipeline(told), ("user",), 2),
                  Contrast(Pipeline.of(TWO, "day 1/2"), q, ("day",), 2), Crowd(p, q, ("user",), 2), None, paper.spreads, p)
        for other in others:
            self.assertIs(paper == other, False)
            self.assertIs(paper != other, True)


class CrowdPapers(unittest.TestCase):
    def test_all_small_ones_by_hand(self):
        pairs = [each for each in PAIRS if each[0] != each[1]][::5]
        for keyset, many in itertools.product(TWO.keysets, (1, 2, 3, 5)):
            if keyset == EACH and many > 1:
                continue
            stream = crowd_by_hand(TWO, keyset, many)
            for p, q in pairs:
                spreads = tuple(spread(Unlike(TWO, EACH), each, stream) for each in (p, q))
                if Fraction(*spreads[0]) <= Fraction(*spreads[1]):
                    self.assertEqual(raised(self, NoCrowd, Crowd, p, q, keyset, many), {})
                    continue
                paper = Crowd(p, q, keyset, many)
                self.assertEqual((paper.keyset, paper.many, paper.size(), paper.spreads), (keyset, many, many, spreads))
                self.assertEqual((paper.stream(), paper.question().value(stream)), (stream, many))
                self.assertEqual(paper.question().text, "unlike #")
                if many <= 3:
                    self.assertEqual(spreads, tuple(spread_by_hand(Unlike(TWO, EACH), each, stream) for each in (p, q)))

    def test_names_that_are_told(self):
        paper = Crowd(Pipeline.of(SHOPS, "shop 1/2"), Pipeline(SHOPS), ("shop",), 2)
        self.assertEqual((paper.keyset, paper.stream()), (("city", "shop"), ((0, (0, 0, 1)), (1, (0, 0, 2)))))

    def test_the_record_itself(self):
        paper = crowd(Pipeline.of(TWO, "# 1/3"), Pipeline(TWO))
        self.assertEqual((paper.keyset, paper.many, paper.size(), paper.stream()), (EACH, 1, 1, ((0, (0, 0)),)))
        self.assertEqual(paper.spreads, ((2, 1), (0, 1)))

    def test_first_keyset_and_least_number(self):
        for keys, texts in ((TWO, TEXTS), (SHOPS, ("city 1/2", "shop 1/2", "user 1/2; # 1/3", "- 9/10; # 1/2", "city+user 1/2", "# 1/9"))):
            for p, q in itertools.product([Pipeline.of(keys, text) for text in texts], repeat=2):
                over = [keyset for keyset in keys.keysets if Fraction(*q.together(keyset)) > Fraction(*p.together(keyset))]
                paper = crowd(p, q)
                if not over:
                    self.assertIsNone(paper)
                    continue
                self.assertEqual(paper.keyset, over[0])
                self.assertEqual(paper, Crowd(p, q, over[0], paper.many))
                if paper.many > 1:
                    self.assertEqual(raised(self, NoCrowd, Crowd, p, q, over[0], paper.many - 1), {})

    def test_errors_in_order(self):
        p, q = Pipeline.of(TWO, "user 1/2"), Pipeline(TWO)
        self.assertEqual(raised(self, NoName, Crowd, q, p, ("#", "y", "x"), 2), {"name": "y"})
        self.assertEqual(raised(self, NoCrowd, Crowd, q, p, ("user",), 1), {})
        self.assertEqual(raised(self, NoCrowd, Crowd, p, p, ("user",), 1), {})
        self.assertEqual(raised(self, NoCrowd, Crowd, Pipeline.of(TWO, "# 1/2"), q, EACH, 2), {})

    def test_great_numbers(self):
        p = Pipeline.of(DAY, "- 998/999")
        q = Pipeline.of(DAY, "- 999/1000; # 1/1000; # 1/1000 a; # 1/1000 b")
        paper = crowd(p, q)
        self.assertEqual(paper.keyset, ())
        a = Fraction(999, 998) - Fraction(1000, 999)
        b = Fraction(0) - Fraction(1000, 999) * (10 ** 9 - 1)
        self.assertEqual(paper.many, -b // a + 1)
        self.assertGreater(Fraction(*paper.spreads[0]), Fraction(*paper.spreads[1]))
        self.assertEqual(raised(self, NoCrowd, Crowd, p, q, (), paper.many - 1), {})
        for call in (paper.stream, paper.question):
            self.assertEqual(raised(self, TooLong, call), {"length": paper.many})

    def test_just_too_long(self):
        p, q = Pipeline.of(TWO, "user 1/2; # 1/3"), Pipeline(TWO)
        paper = Crowd(p, q, ("user",), 1000)
        self.assertEqual((len(paper.stream()), paper.question().value(paper.stream())), (1000, 1000))
        self.assertEqual(spread(paper.question(), p, paper.stream()), paper.spreads[0])
        paper = Crowd(p, q, ("user",), 1001)
        for call in (paper.stream, paper.question):
            self.assertEqual(raised(self, TooLong, call), {"length": 1001})

    def test_equal(self):
        p, q = Pipeline.of(TWO, "user 1/2"), Pipeline(TWO)
        paper = Crowd(p, q, ("user",), 2)
        self.assertTrue(paper == Crowd(p.plain, q, ["user", "user"], 2))
        told = Keys(TWO.names, (("day", "user"),))
        others = (Crowd(p, q, ("user",), 3), Crowd(Pipeline.of(TWO, "user 1/3"), q, ("user",), 2), Crowd(p, q, ("day", "user"), 2),
                  Crowd(Pipeline.of(told, "user 1/2"), Pipeline(told), ("user",), 2), Contrast(p, q, ("user",), 2), None, p)
        for other in others:
            self.assertIs(paper == other, False)
            self.assertIs(paper != other, True)

    def test_papers_do_not_change(self):
        p, q = Pipeline.of(TWO, "user 1/2"), Pipeline(TWO)
        for paper, name in itertools.product((contrast(p, q), crowd(p, q)), ("keyset", "many", "spreads")):
            with self.assertRaises(AttributeError):
                setattr(paper, name, 5)


class BothWays(unittest.TestCase):
    def test_is_the_pair(self):
        for p, q in PAIRS:
            self.assertEqual(both_ways(p, q), (contrast(p, q), contrast(q, p)))

    def test_at_one_cost_nobody_is_surer_for_all_sums(self):
        # Guarantee (e).
        tried = 0
        for keys in (TWO, SHOPS, CHAIN):
            texts = ["; ".join(f"{'+'.join(keyset) or '-'} 1/2{salt}" for keyset, salt in zip(chosen, ("", " a")))
                     for chosen in itertools.combinations_with_replacement(keys.keysets, 2)]
            for p, q in itertools.product([Pipeline.of(keys, text) for text in texts], repeat=2):
                self.assertEqual(p.together(EACH), (1, 4))
                self.assertIs(None in both_ways(p, q), p == q)
                tried += 1
        self.assertGreater(tried, 1000)


if __name__ == "__main__":
    unittest.main()
