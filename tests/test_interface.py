"""[17] and the interface: the errors, which file defines what, what stands in a class's own body."""

import inspect
import unittest

import surershares.answers as answers
import surershares.board as board
import surershares.desk as desk
import surershares.edits as edits
import surershares.errors as errors
import surershares.joins as joins
import surershares.keys as keys
import surershares.logs as logs
import surershares.samplers as samplers
import surershares.streams as streams
import surershares.surer as surer
import surershares.tables as tables
import surershares.texts as texts
import surershares.thinner as thinner

LOOKUPS = "NoName(name), NoPlace(place), NoRecord(number), NoService(name), NoFloor(name)"
VALUES = (
    "BadKeyset(given), BadSampler(given), BadSalt(given), BadShare(given), BadKind(given), BadText(), BadLine(number), "
    "BadLog(place), BadNumbers(place), Ringed(ring), MixedKeys(), Doubled(number), Unlawful(first, second, name), "
    "NotThinner(given), NoPipeline(given), NotWithin(given), TooMuch(given), NoContrast(), NoCrowd(), TooLong(length), "
    "OverBudget(price), Outside(name), Taken(name), Stopped(number, word, held)"
)

FUNCTIONS = {
    keys: {
        "is_keyset": ["keys", "thing"],
        "within": ["one", "other"],
        "joint": ["one", "other"],
        "common": ["one", "other"],
        "below": ["keys", "keyset"],
        "tops": ["keys", "keyset"],
        "keyset_text": ["keyset"],
        "keyset_of": ["keys", "text"],
    },
    streams: {
        "is_stream": ["keys", "thing"],
        "stream_of": ["keys", "records"],
        "agreement": ["keys", "one", "other"],
        "values_of": ["keys", "keyset", "record"],
        "classes": ["keys", "keyset", "stream"],
        "coins": ["pipeline", "stream"],
        "kept_by": ["pipeline", "stream", "numbers"],
        "chance": ["pipeline", "records"],
        "chance_of": ["pipeline", "stream", "kept"],
        "chances": ["pipeline", "stream"],
    },
    thinner: {
        "first_over": ["pipeline", "other"],
        "further": ["pipeline", "other"],
        "grid_of": ["pipeline", "other"],
    },
    answers: {
        "question_of": ["keys", "text"],
        "answer": ["question", "pipeline", "kept"],
        "spread": ["question", "pipeline", "stream"],
        "kept_mean": ["question", "pipeline", "stream"],
        "weight": ["pipeline", "question"],
    },
    surer: {
        "surer_sums": ["p", "q"],
        "surer_counts": ["p", "q"],
        "compare": ["p", "q"],
        "contrast": ["p", "q"],
        "crowd": ["p", "q"],
        "both_ways": ["p", "q"],
    },
    tables: {
        "numbers": ["pipeline", "order"],
        "pipeline_by": ["keys", "order", "numbers"],
        "least_above": ["p", "q", "order"],
        "greatest_below": ["p", "q", "order"],
        "barrier": ["p", "q", "order", "above"],
        "corners": ["p", "q", "order"],
        "moved": ["pipeline", "low", "high", "rate"],
        "moves": ["p", "q"],
        "gap": ["p", "q"],
    },
    joins: {
        "crossing": ["join", "keyset"],
    },
    edits: {
        "edited": ["pipeline", "edit"],
        "effect": ["pipeline", "edit"],
        "needless": ["pipeline"],
        "trimmed": ["pipeline"],
        "fewest_edits": ["pipeline", "other"],
        "least_rate": ["pipeline", "k", "other", "kind"],
    },
    logs: {
        "form_of": ["pipeline"],
        "is_log": ["keys", "thing"],
        "plain_form": ["form"],
        "plain_forms": ["keys"],
        "covered": ["one", "other"],
        "can_be": ["keys", "log", "form"],
        "why_not": ["keys", "log", "form"],
        "parting": ["keys", "one", "other"],
        "teaching": ["keys", "form"],
        "whole": ["form", "keyset"],
    },
    texts: {
        "fraction_text": ["fraction"],
        "fraction_in": ["text"],
        "stream_text": ["stream"],
        "stream_in": ["keys", "text"],
        "board_text": ["board"],
        "board_in": ["keys", "text"],
    },
    desk: {
        "answers": ["text"],
    },
}

QUESTION = "__init__ value parts __add__ __sub__ __neg__ __mul__"
PAPER = "__init__ keyset many spreads size stream question __eq__"

METHODS = {
    keys.Keys: "__init__ names pairs text keysets tells told __contains__ __len__ __eq__ closed of",
    samplers.Sampler: "__init__ schema keyset rate salt text __eq__ at of",
    samplers.Pipeline: (
        "__init__ schema samplers text plain share together squares __len__ __getitem__ __contains__ __bool__ "
        "__iter__ __eq__ __le__ __lt__ __and__ __or__ __rshift__ salted of"
    ),
    thinner.Grid: "__init__ schema keyset n many cells size record stream chance margin shows __eq__",
    answers.Total: QUESTION + " text",
    answers.Worths: QUESTION,
    answers.Unlike: QUESTION + " text",
    answers.Pairs: QUESTION + " text",
    answers.Crowds: QUESTION + " text",
    answers.Lots: QUESTION,
    surer.Contrast: PAPER,
    surer.Crowd: PAPER,
    joins.Join: "__init__ left right keyset schema shared joined value chance answer spread gain apart best __eq__",
    joins.Crossing: "n spreads asked streams __eq__",
    logs.Logs: "__init__ schema __len__ __getitem__ __iter__ __eq__ misfit least_forms alone surely chance",
    board.Board: (
        "__init__ __getitem__ __setitem__ __iadd__ __contains__ __len__ __iter__ names schema pipeline cost budget leave retune "
        "spend floor lift floors effect sift logs attempt undo twin __eq__"
    ),
}

PROPERTIES = {
    keys.Keys: "names pairs text keysets",
    samplers.Sampler: "schema keyset rate salt text",
    samplers.Pipeline: "schema samplers text plain",
    thinner.Grid: "schema keyset n many",
    answers.Total: "text",
    answers.Unlike: "text",
    answers.Pairs: "text",
    answers.Crowds: "text",
    surer.Contrast: "keyset many spreads",
    surer.Crowd: "keyset many spreads",
    joins.Join: "left right keyset schema shared",
    joins.Crossing: "n spreads asked",
    logs.Logs: "schema",
    board.Board: "names schema pipeline cost budget floors logs",
}

ARGUMENTS = {
    keys.Keys: "(names, tells=())",
    keys.Keys.tells: "(self, one, other)",
    keys.Keys.told: "(self, name)",
    keys.Keys.closed: "(self, names)",
    keys.Keys.of: "(text)",
    samplers.Sampler: "(keys, names, rate, *, salt='')",
    samplers.Sampler.at: "(self, rate)",
    samplers.Sampler.of: "(keys, text)",
    samplers.Pipeline: "(keys, samplers=())",
    samplers.Pipeline.share: "(self, keyset)",
    samplers.Pipeline.together: "(self, keyset)",
    samplers.Pipeline.squares: "(self, keyset)",
    samplers.Pipeline.salted: "(self, word)",
    samplers.Pipeline.of: "(keys, text)",
    thinner.Grid: "(keys, names, n, many)",
    thinner.Grid.cells: "(self)",
    thinner.Grid.size: "(self)",
    thinner.Grid.record: "(self, place)",
    thinner.Grid.stream: "(self)",
    thinner.Grid.chance: "(self, pipeline)",
    thinner.Grid.margin: "(self, pipeline, other)",
    thinner.Grid.shows: "(self, pipeline, other)",
    answers.Total: "(keys, name)",
    answers.Worths: "(table)",
    answers.Unlike: "(keys, names)",
    answers.Pairs: "(keys, names)",
    answers.Crowds: "(keys, names, least)",
    answers.Lots: "(table)",
    surer.Contrast: "(p, q, names, many)",
    surer.Crowd: "(p, q, names, many)",
    surer.Contrast.size: "(self)",
    surer.Contrast.stream: "(self)",
    surer.Contrast.question: "(self)",
    surer.Crowd.size: "(self)",
    surer.Crowd.stream: "(self)",
    surer.Crowd.question: "(self)",
    joins.Join: "(left, right, names)",
    joins.Join.joined: "(self, lefts, rights)",
    joins.Join.value: "(self, lefts, rights, question=(None, None))",
    joins.Join.chance: "(self, lefts, rights)",
    joins.Join.answer: "(self, lefts, rights, question=(None, None))",
    joins.Join.spread: "(self, lefts, rights, question=(None, None))",
    joins.Join.gain: "(self, keyset)",
    joins.Join.apart: "(self, keyset)",
    joins.Join.best: "(self)",
    joins.Crossing.streams: "(self)",
    logs.Logs: "(keys, logs=())",
    logs.Logs.misfit: "(self, form)",
    logs.Logs.least_forms: "(self)",
    logs.Logs.alone: "(self)",
    logs.Logs.surely: "(self, keyset)",
    logs.Logs.chance: "(self, pipeline)",
    board.Board: "(keys)",
    board.Board.leave: "(self, name)",
    board.Board.retune: "(self, name, share)",
    board.Board.spend: "(self, budget)",
    board.Board.floor: "(self, name, pipeline, *, kind='all')",
    board.Board.lift: "(self, name)",
    board.Board.effect: "(self, name, sampler)",
    board.Board.sift: "(self, stream, numbers)",
    board.Board.attempt: "(self, deeds)",
    board.Board.undo: "(self)",
    board.Board.twin: "(self)",
}


def listed(text):
    """The pairs (name, attributes) of a list of errors as the document writes it."""
    found = []
    for part in text.split("), "):
        name, _, inner = part.rstrip(")").partition("(")
        found.append((name, [word for word in inner.split(", ") if word]))
    return found


class Errors(unittest.TestCase):
    def test_all_are_there_under_their_class(self):
        for base, text, many in ((LookupError, LOOKUPS, 5), (ValueError, VALUES, 24)):
            self.assertEqual(len(listed(text)), many)
            for name, _ in listed(text):
                with self.subTest(name=name):
                    found = getattr(errors, name)
                    self.assertEqual(found.__bases__, (base,))
                    self.assertEqual((found.__module__, found.__name__), ("surershares.errors", name))

    def test_values_become_attributes(self):
        for name, words in listed(LOOKUPS) + listed(VALUES):
            with self.subTest(name=name):
                values = [f"v{place}" for place in range(len(words))]
                wanted = dict(zip(words, values))
                self.assertEqual(vars(getattr(errors, name)(*values)), wanted)
                self.assertEqual(vars(getattr(errors, name)(**wanted)), wanted)

    def test_values_are_needed(self):
        for name, words in listed(LOOKUPS) + listed(VALUES):
            if words:
                with self.subTest(name=name), self.assertRaises(TypeError):
                    getattr(errors, name)()

    def test_tuples_stay_and_lists_count_as_tuples(self):
        self.assertEqual(errors.BadShare((2, 4)).given, (2, 4))
        given = [2, 4]
        error = errors.BadShare(given)
        given.append(5)
        self.assertEqual(error.given, (2, 4))
        self.assertEqual(errors.Ringed(["a", "b"]).ring, ("a", "b"))
        self.assertEqual(errors.Stopped(1, "BadShare", [2, 4]).held, (2, 4))
        self.assertIsNone(errors.Stopped(1, "MixedKeys", None).held)

    def test_are_raised_and_caught(self):
        with self.assertRaises(LookupError) as caught:
            raise errors.NoName("shop")
        self.assertEqual(caught.exception.name, "shop")
        with self.assertRaises(ValueError):
            raise errors.Unlawful(1, 2, "shop")


class Files(unittest.TestCase):
    def test_functions(self):
        for module, functions in FUNCTIONS.items():
            for name, arguments in functions.items():
                with self.subTest(name=name):
                    found = vars(module)[name]
                    self.assertTrue(inspect.isfunction(found))
                    self.assertEqual(found.__module__, module.__name__)
                    self.assertEqual(list(inspect.signature(found).parameters), arguments)

    def test_classes(self):
        wanted = {keys: "Keys", samplers: "Sampler Pipeline", thinner: "Grid", answers: "Total Worths Unlike Pairs Crowds Lots",
                  surer: "Contrast Crowd", joins: "Join Crossing",
                  logs: "Logs", board: "Board"}
        for module, names in wanted.items():
            for name in names.split():
                self.assertEqual(vars(module)[name].__module__, module.__name__)

    def test_methods_stand_in_the_class_itself(self):
        for found, names in METHODS.items():
            for name in names.split():
                with self.subTest(owner=found.__name__, name=name):
                    self.assertIn(name, vars(found))

    def test_properties_have_no_setter(self):
        for found, names in PROPERTIES.items():
            for name in names.split():
                with self.subTest(owner=found.__name__, name=name):
                    self.assertIsInstance(vars(found)[name], property)
                    self.assertIsNone(vars(found)[name].fset)

    def test_static_methods(self):
        for found in (keys.Keys, samplers.Sampler, samplers.Pipeline):
            self.assertIsInstance(vars(found)["of"], staticmethod)

    def test_questions_take_arguments_by_these_names(self):
        for found in (answers.Total, answers.Worths, answers.Unlike, answers.Pairs, answers.Crowds, answers.Lots):
            for name in ("value", "parts"):
                self.assertEqual(str(inspect.signature(vars(found)[name])), "(self, stream)")

    def test_arguments(self):
        for found, arguments in ARGUMENTS.items():
            with self.subTest(found=found):
                self.assertEqual(str(inspect.signature(found)), arguments)


if __name__ == "__main__":
    unittest.main()
