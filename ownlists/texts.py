"""Texts: lists, books, pairs and boards written, and read back from just what was written."""

from ownlists.board import board_of
from ownlists.books import is_book
from ownlists.errors import BadLine, BadText, NoBill, NoPayer, Outside
from ownlists.plain import is_amounts, is_ascending, is_list, is_name, is_name_set

# What is written for no NAMEs or pairs, and for no bound of a frame; no NAME is written so.
NONE = "-"
UNBOUND = "*"


def row_text(row):
    """The text of a LIST or a set of NAMEs."""
    return " ".join(row) if len(row) > 0 else NONE


def row_in(text):
    """The LIST with just this text."""
    row = words_in(text)
    if row is None:
        raise BadText()
    return row


def book_text(book):
    """The text of the BOOK: its bills, then each payer with the LIST."""
    return "; ".join([row_text(book[0])] + [f"{payer} {row_text(row)}" for payer, row in book[1]])


def book_in(text):
    """The BOOK with just this text."""
    first, *parts = text.split("; ")
    # What is no text of a LIST gives None in its place, and so no BOOK.
    book = (words_in(first), tuple([_payer_in(part, " ") for part in parts]))
    if not is_book(book):
        raise BadText()
    return book


def pairs_text(pairs):
    """The text of these pairs of a NAME and a number."""
    return "; ".join([f"{name} {number}" for name, number in pairs]) if len(pairs) > 0 else NONE


def pairs_in(text):
    """The ascending tuple of pairs of a NAME and a number with just this text."""
    pairs = _amounts_in(text)
    if pairs is None:
        raise BadText()
    return pairs


def board_text(board):
    """The text of the Board, in lines."""
    lines = ["bills " + row_text(board.bills), "open " + pairs_text(board.owed), f"back {board.back}"]
    lines.extend([f"{payer}: {row_text(board[payer])}" for payer in board.names])
    lines.extend([f"{payer} from {_bound_text(low)} .. {_bound_text(high)}" for payer, low, high in board.frames])
    return "\n".join(lines + ["end"])


def board_in(text):
    """The Board with this text, with no deed to take back."""
    lines = text.split("\n")
    owed, back = _start_in(lines)
    board = board_of(owed, back, (), ())
    many = lines.index("end") if "end" in lines else len(lines)
    last = (0, "")
    for number in range(3, many):
        place = _place_told(board, lines[number])
        if place is None or place <= last:
            raise BadLine(number)
        last = place
    if many + 1 != len(lines):
        # Either the last line is missing, or there is one behind it.
        raise BadLine(min(many + 1, len(lines)))
    # The deeds by which the Board was filled are not to be taken back.
    return board_of(owed, back, tuple([(payer, board[payer]) for payer in board.names]), board.frames)


def words_in(text):
    """The LIST with just this text; None if there is none."""
    if text == NONE:
        return ()
    row = tuple(text.split(" "))
    return row if is_list(row) else None


def amount_in(text):
    """The number from 0 with just this text; None if there is none."""
    if text == "" or not all(["0" <= sign <= "9" for sign in text]):
        return None
    return int(text) if text[0] != "0" or text == "0" else None


def bills_in(line):
    """The bills that the first line of a text tells; None if it tells none."""
    names = words_in(_behind(line, "bills "))
    return names if is_name_set(names) else None


def frame_in(text):
    """The triple (payer, low, high) with just this text; None if there is none."""
    payer, _, rest = text.partition(" from ")
    bounds = rest.split(" .. ")
    if not is_name(payer) or len(bounds) != 2 or not all([_is_bound(bound) for bound in bounds]):
        return None
    low, high = [None if bound == UNBOUND else words_in(bound) for bound in bounds]
    return payer, low, high


def _payer_in(text, mark):
    """The pair of what stands ahead of this mark, and of the LIST behind it, None if there is none."""
    payer, _, rest = text.partition(mark)
    return payer, words_in(rest)


def _amounts_in(text):
    """The ascending pairs of a NAME and a number with just this text; None if there are none."""
    if text == NONE:
        return ()
    parts = [part.partition(" ") for part in text.split("; ")]
    pairs = tuple([(name, amount_in(number)) for name, _, number in parts])
    if not is_amounts(pairs) or not is_ascending([name for name, number in pairs]):
        return None
    return pairs


def _is_bound(text):
    """Whether this is the text of a bound of a frame."""
    return text == UNBOUND or words_in(text) is not None


def _bound_text(bound):
    """The text of a bound of a frame."""
    return UNBOUND if bound is None else row_text(bound)


def _behind(line, word):
    """What stands in the line behind this word; "", which is the text of nothing, if it does not begin with it."""
    return line[len(word):] if line.startswith(word) else ""


def _start_in(lines):
    """What is due and how much was given back by the first three lines."""
    # A line that is missing is as wrong as an empty one, and has the number that is asked for.
    first, second, third = (lines + ["", ""])[:3]
    names = bills_in(first)
    if names is None:
        raise BadLine(0)
    owed = _amounts_in(_behind(second, "open "))
    if owed is None or tuple([bill for bill, number in owed]) != names:
        raise BadLine(1)
    back = amount_in(_behind(third, "back "))
    if back is None:
        raise BadLine(2)
    return owed, back


def _place_told(board, line):
    """Give the Board the LIST, or the frame, of this line; return (0, payer), or (1, payer), or None if it is wrong."""
    payer, row = _payer_in(line, ": ")
    frame = frame_in(line)
    try:
        if frame is not None:
            payer, low, high = frame
            board.frame(payer, low, high)
            return 1, payer
        if not is_name(payer) or row is None:
            return None
        board[payer] = row
        return 0, payer
    except (NoBill, NoPayer, Outside):
        return None
