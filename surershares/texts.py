"""Texts of FRACTIONs, STREAMs and Boards, and back again."""

from surershares.basics import is_digits, is_name, lowest, share_in, share_text
from surershares.board import Board
from surershares.errors import BadKeyset, BadLine, BadSampler, BadText, NoName, Stopped
from surershares.keys import keyset_of, keyset_text
from surershares.samplers import Pipeline, Sampler
from surershares.streams import stream_of
from surershares.tables import ORDERS

RANKS = {"set": 0, "floor": 1, "spend": 2}


def fraction_text(fraction):
    """The text of a FRACTION."""
    return share_text(fraction)


def fraction_in(text):
    """The FRACTION with just this text."""
    top, _, bottom = text.partition("/")
    n = number_in(top)
    d = number_in(bottom or "1")
    if n is None or d is None or d < 1:
        raise BadText()
    fraction = lowest(n, d)
    # Only the comparison with what would be written refuses "2/4", "3/1" and "3/".
    if fraction_text(fraction) != text:
        raise BadText()
    return fraction


def number_in(text):
    """The number with just this text; None if there is none."""
    if not is_digits(text.removeprefix("-")):
        return None
    number = int(text)
    return number if str(number) == text else None


def stream_text(stream):
    """The text of a STREAM, a line for each RECORD."""
    return "\n".join([record_text(record) for record in stream])


def record_text(record):
    """The line of a RECORD."""
    number, values = record
    return " ".join([f"{number}:", *[str(value) for value in values]])


def stream_in(keys, text):
    """The STREAM with just this text."""
    records = []
    numbers = []
    for place, line in enumerate(text.split("\n") if text != "" else []):
        record = record_in(keys, line)
        if record is None or record[0] in numbers:
            raise BadLine(place)
        records.append(record)
        numbers.append(record[0])
    return stream_of(keys, records)


def record_in(keys, line):
    """The RECORD with just this line; None if there is none."""
    words = line.split(" ")
    number = number_in(words[0].removesuffix(":"))
    values = [number_in(word) for word in words[1:]]
    if number is None or number < 0 or None in values or len(values) != len(keys):
        return None
    record = (number, tuple(values))
    return record if record_text(record) == line else None


def board_text(board):
    """The text of a Board: services, floors and the budget."""
    services = [f"{name}: {board[name].text}" for name in board.names]
    floors = [f"{name} {kind} {text}" for name, kind, text in board.floors]
    return "\n".join([*services, *floors, f"budget {fraction_text(board.budget)}"])


def board_in(keys, text):
    """The Board with just this text, without logs and deeds to take back."""
    board = Board(keys)
    ahead = (0, "")
    lines = text.split("\n")
    for number, line in enumerate(lines):
        deed = deed_in(keys, line)
        if deed is None or place_of(deed) <= ahead:
            raise BadLine(number)
        try_line(board, number, deed)
        ahead = place_of(deed)
    if ahead[0] != RANKS["spend"]:
        raise BadLine(len(lines))
    return board.fresh()


def place_of(deed):
    """What rises from line to line: what is written by it, and its NAME if it has one."""
    word = deed[0]
    return (RANKS[word], "" if word == "spend" else deed[1])


def try_line(board, number, deed):
    """Does the deed of a line; raises BadLine if it can not be done."""
    try:
        board.attempt((deed,))
    except Stopped:
        raise BadLine(number) from None


def deed_in(keys, line):
    """The deed by which a Board comes to have this line; None if it is not so written."""
    name, colon, text = line.partition(": ")
    if colon != "":
        sampler = sampler_in(keys, text)
        return ("set", name, sampler) if is_name(name) and sampler is not None else None
    name, _, rest = line.partition(" ")
    kind, blank, text = rest.partition(" ")
    if blank == "":
        share = share_in(rest)
        return ("spend", share) if name == "budget" and share is not None else None
    pipeline = Pipeline(keys) if text == "-" else pipeline_in(keys, text)
    return ("floor", name, pipeline, kind) if is_name(name) and kind in ORDERS and pipeline is not None else None


def sampler_in(keys, text):
    """The Sampler with just this text; None if there is none."""
    try:
        sampler = Sampler.of(keys, text)
    except (BadSampler, NoName):
        return None
    return sampler if sampler.text == text else None


def pipeline_in(keys, text):
    """The Pipeline with just this text and a Sampler or more; None if there is none."""
    try:
        pipeline = Pipeline.of(keys, text)
    except (BadSampler, NoName):
        return None
    return pipeline if pipeline.text == text and len(pipeline) > 0 else None


def keyset_in(keys, text):
    """The KEYSET with just this text; None if there is none."""
    try:
        keyset = keyset_of(keys, text)
    except (BadKeyset, NoName):
        return None
    return keyset if keyset_text(keyset) == text else None
