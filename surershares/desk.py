"""A desk: a text of Keys and requests, and the answers of a Board to them."""

from surershares.basics import is_name, over, share_in, times
from surershares.board import Board
from surershares.errors import BadLine, Stopped
from surershares.keys import ITSELF, Keys
from surershares.surer import compare
from surershares.tables import ORDERS
from surershares.texts import fraction_text, keyset_in, pipeline_in, sampler_in

ALONE = ("line", "plain", "cost", "undo")


def answers(text):
    """The answers to all requests of the text."""
    lines = text.split("\n")
    parted = lines.index("") if "" in lines else len(lines)
    keys = Keys.of("\n".join(lines[:parted]))
    if parted == len(lines):
        raise BadLine(parted)
    # All requests are read ahead of all answers: the first that is wrong leaves none.
    requests = []
    for number in range(parted + 1, len(lines)):
        request = request_in(keys, lines[number])
        if request is None:
            raise BadLine(number)
        requests.append(request)
    board = Board(keys)
    return [answer_to(board, request) for request in requests]


def request_in(keys, line):
    """The word of a request and what it is about; None if it is not so written."""
    word, blank, rest = line.partition(" ")
    if blank == "":
        return (word, None) if word in ALONE else None
    if word == "chance":
        return about(word, keyset_in(keys, rest))
    if word == "beside":
        return about(word, pipeline_in(keys, rest))
    return about("deed", deed_in(keys, word, rest))


def about(word, thing):
    """A request about this; None for nothing."""
    return None if thing is None else (word, thing)


def deed_in(keys, word, text):
    """The deed that is asked for; None if it is not so written."""
    if word == "spend":
        return with_last((word,), share_in(text))
    name, _, rest = text.partition(" ")
    if word in ("leave", "lift"):
        return (word, text) if is_name(text) else None
    if not is_name(name):
        return None
    if word == "put":
        return with_last(("set", name), sampler_in(keys, rest))
    if word == "retune":
        return with_last((word, name), share_in(rest))
    if word == "floor":
        return floor_in(keys, name, rest)
    return None


def floor_in(keys, name, text):
    """The deed of a floor; None if it is not so written."""
    kind, _, rest = text.partition(" ")
    pipeline = pipeline_in(keys, rest)
    return ("floor", name, pipeline, kind) if kind in ORDERS and pipeline is not None else None


def with_last(words, thing):
    """A deed that ends with this; None for nothing."""
    return None if thing is None else (*words, thing)


def answer_to(board, request):
    """The answer of the Board."""
    word, thing = request
    if word == "deed":
        return answer_to_deed(board, thing)
    if word == "undo":
        return "yes" if board.undo() else "no"
    if word == "line":
        return board.pipeline.text or "-"
    if word == "plain":
        return board.pipeline.plain.text or "-"
    if word == "beside":
        return compare(board.pipeline, thing)
    return fraction_text(board.cost if word == "cost" else pair_chance(board.pipeline, thing))


def answer_to_deed(board, deed):
    """Whether the deed is done, or which error it raises."""
    try:
        board.attempt((deed,))
    except Stopped as stopped:
        return f"refused {stopped.word}"
    return "done"


def pair_chance(pipeline, keyset):
    """The chance that two records that are alike just in this KEYSET are both kept."""
    single = pipeline.together(ITSELF)
    return over(times(single, single), pipeline.together(keyset))
