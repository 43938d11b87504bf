"""Deeds on a Board: whether they may be done, and what stops a row of them."""

from surershares.basics import less
from surershares.errors import BadKind, BadNumbers, BadShare, MixedKeys, NoFloor, NoService, Outside, OverBudget
from surershares.errors import Stopped
from surershares.keys import ITSELF
from surershares.surer import surer_counts, surer_sums


def holds(pipeline, kind, floor):
    """Whether a floor of this kind holds for the Pipeline."""
    if kind == "sums":
        return surer_sums(pipeline, floor)
    return surer_counts(pipeline, floor) if kind == "counts" else floor <= pipeline


def check_budget(pipeline, budget):
    """Raises OverBudget if the Pipeline costs more."""
    price = pipeline.together(ITSELF)
    if less(budget, price):
        raise OverBudget(price)


def check_floors(pipeline, floors):
    """Raises Outside for the first of the floors by name, pairs of a kind and a Pipeline, that does not hold."""
    for name in sorted(set(list(floors))):
        kind, floor = floors[name]
        if not holds(pipeline, kind, floor):
            raise Outside(name)


def done(board, deed):
    """What a deed returns that is told by a word and its arguments."""
    word, rest = deed[0], deed[1:]
    if word == "set":
        board[rest[0]] = rest[1]
        return None
    if word == "leave":
        return board.leave(rest[0])
    if word == "retune":
        return board.retune(rest[0], rest[1])
    if word == "spend":
        return board.spend(rest[0])
    if word == "floor":
        return board.floor(rest[0], rest[1], kind=rest[2])
    if word == "lift":
        return board.lift(rest[0])
    return board.sift(rest[0], rest[1])


def tried(board, number, deed):
    """What the deed with this number returns; raises Stopped in the place of its own error."""
    # A handler for each class: only so the word and the value stand there as they are.
    try:
        return done(board, deed)
    except NoService as unserved:
        raise Stopped(number, "NoService", unserved.name) from None
    except NoFloor as floorless:
        raise Stopped(number, "NoFloor", floorless.name) from None
    except MixedKeys:
        raise Stopped(number, "MixedKeys", None) from None
    except BadShare as unshared:
        raise Stopped(number, "BadShare", unshared.given) from None
    except BadKind as unkind:
        raise Stopped(number, "BadKind", unkind.given) from None
    except BadNumbers as unnumbered:
        raise Stopped(number, "BadNumbers", unnumbered.place) from None
    except OverBudget as costly:
        raise Stopped(number, "OverBudget", costly.price) from None
    except Outside as outer:
        raise Stopped(number, "Outside", outer.name) from None
