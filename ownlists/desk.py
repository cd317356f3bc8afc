"""A desk: the requests of a text, done one after another to a board, and their answers."""

from ownlists.board import Board
from ownlists.errors import BadLine, NoBill, NoPayer, Stopped
from ownlists.plain import is_name
from ownlists.texts import amount_in, bills_in, frame_in, pairs_text, row_text, words_in

# The requests of one word; and the kinds of what stands behind the first word of the other ones, but for a frame.
_BARE = ("open", "back", "good", "odd", "doubled", "undo")
_SHAPES = {
    "due": ("name", "amount"), "pay": ("name", "amount"), "set": ("name", "words"), "leave": ("name",),
    "lift": ("name",), "add": ("name", "name"), "shares": ("name", "amount"), "above": ("name",),
    "effect": ("name", "words"),
}
_DEEDS = ("due", "pay", "set", "leave", "lift", "add", "frame")


def answers(text):
    """The answers to the requests of the text, one in a line, done to the Board that the first line tells."""
    if text == "":
        return []
    lines = text.split("\n")
    names = bills_in(lines[0])
    requests = [_request_in(line) for line in lines[1:]]
    told = [names] + requests
    if None in told:
        raise BadLine(told.index(None))
    board = Board(names)
    found = ["done"]
    for request in requests:
        found.append(_answer(board, request))
    return found


def _request_in(line):
    """The tuple of the first word of this request and of what it hands over; None if it is no request."""
    if line in _BARE:
        return (line,)
    word, _, rest = line.partition(" ")
    told = None
    if word == "frame":
        told = frame_in(rest)
    elif word in _SHAPES:
        told = _told_in(rest, _SHAPES[word])
    return None if told is None else (word,) + told


def _told_in(text, shape):
    """The tuple of what this text tells, of these kinds one behind another; None if it does not."""
    texts = text.split(" ", len(shape) - 1)
    told = tuple([_value_in(part, kind) for part, kind in zip(texts, shape)])
    return told if len(texts) == len(shape) and None not in told else None


def _value_in(text, kind):
    """The NAME, the row of WORDS, or the amount from 1 with just this text; None if there is none."""
    if kind == "name":
        return text if is_name(text) else None
    if kind == "words":
        return words_in(text)
    amount = amount_in(text)
    return None if amount == 0 else amount


def _answer(board, request):
    """Do this request to the Board, and return its answer."""
    try:
        if request[0] in _DEEDS:
            # An attempt of one deed is that deed.
            board.attempt((request,))
            return "done"
        return _asked(board, request[0], request[1:])
    except Stopped as stopped:
        return "refused " + stopped.raised
    except NoPayer:
        return "refused NoPayer"
    except NoBill:
        return "refused NoBill"


def _asked(board, word, told):
    """The answer to a request that is no deed."""
    if word == "open":
        return pairs_text(board.owed)
    if word == "shares":
        return pairs_text(board.shares(told[0], told[1]))
    if word == "back":
        return str(board.back)
    if word == "good":
        return _yes_or_no(board.good())
    if word == "odd":
        return row_text(board.odd())
    if word == "above":
        return row_text(board.above(told[0]))
    if word == "doubled":
        return row_text(board.doubled())
    if word == "effect":
        return board.effect(told[0], told[1])
    return _yes_or_no(board.undo())


def _yes_or_no(holds):
    return "yes" if holds else "no"
