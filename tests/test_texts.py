"""Texts: each written and read back, each wrong one refused."""

import itertools
import random
import re
import unittest

from boards import Walk, done, seen
from helping import books_of, check_call, check_raises, check_same, rows_of
from ownlists.board import Board
from ownlists.errors import BadLine, BadText
from ownlists.texts import board_in, board_text, book_in, book_text, pairs_in, pairs_text, row_in, row_text

GREAT = 10 ** 40
NAME = "[a-z]{1,8}"
NUMBER = "(0|[1-9][0-9]*)"
ROW = f"(-|{NAME}( {NAME})*)"
# From the blank to the tilde, without the percent sign; and some signs that no text of the package has.
SIGNS = [chr(code) for code in range(32, 127) if code != 37]
STRANGE = ["\n", "\t", "\r", "\u00e9", "\u00df", "\u0663", "\u00b2", "\u00a0", "\u2028", "\x00", "%"]
LINES = ["bills gas rent", "open gas 0; rent 12", "back 3", "ann: rent gas", "bob: -", "ann from rent .. *", "end"]
TEXT = "\n".join(LINES)


def row_by(text):
    """The LIST with this text, by a pattern; None if there is none."""
    if not re.fullmatch(ROW, text, re.ASCII):
        return None
    row = () if text == "-" else tuple(text.split(" "))
    return row if len(set(row)) == len(row) else None


def pairs_by(text):
    """The pairs with this text, by a pattern; None if there are none."""
    if text == "-":
        return ()
    if not re.fullmatch(f"{NAME} {NUMBER}(; {NAME} {NUMBER})*", text, re.ASCII):
        return None
    pairs = tuple((part.split(" ")[0], int(part.split(" ")[1])) for part in text.split("; "))
    names = [name for name, number in pairs]
    return pairs if names == sorted(set(names)) else None


def book_by(text):
    """The BOOK with this text, by a pattern; None if there is none."""
    if not re.fullmatch(f"{ROW}(; {NAME} {ROW})*", text, re.ASCII):
        return None
    first, *parts = text.split("; ")
    bills = row_by(first)
    rows = tuple((part.split(" ")[0], row_by(part.split(" ", 1)[1])) for part in parts)
    names = [payer for payer, row in rows]
    if bills is None or list(bills) != sorted(set(bills)) or names != sorted(set(names)):
        return None
    return (bills, rows) if all(row is not None and set(row) <= set(bills) for payer, row in rows) else None


def changed_texts(text):
    """Texts that differ from this one at one place: a sign left out, put in, exchanged, or doubled."""
    for at in range(len(text) + 1):
        yield text[:at] + text[at + 1:]
        yield text[:at] + text[at:at + 1] + text[at:]
        yield text[:at] + text[at:at + 2][::-1] + text[at + 2:]
        for sign in SIGNS + STRANGE:
            yield text[:at] + sign + text[at:]
            yield text[:at] + sign + text[at + 1:]


def board_by(text):
    """The number of the first line that is wrong, or all that is seen of the board, in a second way."""
    lines = text.split("\n")
    for number in range(len(lines)):
        if not stands(lines[:number], lines[number]):
            return number
    return len(lines) if "end" not in lines[3:] else None


def stands(before, line):
    """Whether this line can stand behind these, which are good."""
    number = len(before)
    if number == 0:
        bills = row_by(line[6:]) if line[:6] == "bills " else None
        return bills is not None and list(bills) == sorted(bills)
    bills = row_by(before[0][6:])
    if number == 1:
        pairs = pairs_by(line[5:]) if line[:5] == "open " else None
        return pairs is not None and tuple(name for name, number in pairs) == bills
    if number == 2:
        return re.fullmatch(f"back {NUMBER}", line, re.ASCII) is not None
    if "end" in before[3:]:
        return False
    owned = dict(other.split(": ") for other in before[3:] if ":" in other)
    framed = [other.split(" ")[0] for other in before[3:] if ":" not in other]
    if line == "end":
        return True
    if re.fullmatch(f"{NAME}: {ROW}", line, re.ASCII):
        name, row = line.split(": ")
        row = row_by(row)
        return row is not None and set(row) <= set(bills) and not framed and name > max(owned, default="")
    found = re.fullmatch(f"({NAME}) from (\\*|{ROW}) \\.\\. (\\*|{ROW})", line, re.ASCII)
    if not found or found[1] not in owned or found[1] <= max(framed, default=""):
        return False
    row, (low, high) = row_by(owned[found[1]]), line.split(" from ", 1)[1].split(" .. ")
    for bound, holds in ((low, lambda low: row[:len(low)] == low), (high, lambda high: high[:len(row)] == row)):
        told = None if bound == "*" else row_by(bound)
        if bound != "*" and (told is None or not set(told) <= set(bills) or not holds(told)):
            return False
    return True


class Rows(unittest.TestCase):

    def test_written_and_read(self):
        for row, text in (((), "-"), (("rent", "gas"), "rent gas"), (("a",), "a"),
                          (("abcdefgh", "zzzzzzzz"), "abcdefgh zzzzzzzz"),
                          (tuple("fedcba"), "f e d c b a"), (("bills", "end", "from"), "bills end from")):
            check_call(self, row_text, text, row=row)
            check_call(self, row_in, row, text=text)
        many = tuple("".join(letters) for letters in itertools.product("abcdefgh", repeat=3))
        check_same(self, row_in(row_text(many)), many)

    def test_wrong_texts(self):
        for text in ("", " ", "a a", "a b a", " a", "a ", "a  b", "- ", " -", "--", "a -", "- a", "A", "aB",
                     "abcdefghi", "a1", "a\n", "\n", "a\tb", "a, b", "a;b", "()", "a_b", "\u00e9", "\u00aa",
                     "a\u00a0b", "a b c a", "a.b", "*", "0"):
            check_raises(self, row_in, BadText(), text=text)

    def test_texts_with_one_sign_changed(self):
        for text in ("-", "a", "rent gas", "abcdefgh b a"):
            for changed in changed_texts(text):
                if row_by(changed) is None:
                    with self.assertRaises(BadText):
                        row_in(changed)
                else:
                    check_same(self, row_in(changed), row_by(changed))
                    self.assertEqual(row_text(row_in(changed)), changed)


class Books(unittest.TestCase):

    def test_written_and_read(self):
        for book, text in (
                (((), ()), "-"), ((("a", "b"), (("x", ("b", "a")), ("y", ()))), "a b; x b a; y -"), ((("a",), ()), "a"),
                (((), (("a", ()),)), "-; a -"), ((("a",), (("a", ("a",)),)), "a; a a"),
                ((("abcdefgh",), (("zzzzzzzz", ("abcdefgh",)),)), "abcdefgh; zzzzzzzz abcdefgh")):
            check_call(self, book_text, text, book=book)
            check_call(self, book_in, book, text=text)
        for book in books_of("ab", "pq"):
            check_same(self, book_in(book_text(book)), book)

    def test_wrong_texts(self):
        for text in ("", "b a", "a a", "a b;x a", "a b ; x a", "a b; x a;", "a b; x a; ", "; x a", "a b; x",
                     "a b; x ", "a b; x c", "a b; x a a", "a b; y a; x a", "a b; x a; x b", "a b; X a",
                     "a b; x a; y", "a b; x - a", "-; x a", "a b; - a", "a b;  x a", "a b; x  a", "a b; x a\n",
                     "a b\n; x a", " a b", "a b; abcdefghi a", "a b; x; y a", "-; ", "- -"):
            check_raises(self, book_in, BadText(), text=text)

    def test_texts_with_one_sign_changed(self):
        for text in ("-", "a b; x b a; y -", "a; a a; b -"):
            for changed in changed_texts(text):
                if book_by(changed) is None:
                    with self.assertRaises(BadText):
                        book_in(changed)
                else:
                    check_same(self, book_in(changed), book_by(changed))
                    self.assertEqual(book_text(book_in(changed)), changed)


class Pairs(unittest.TestCase):

    def test_written_and_read(self):
        for pairs, text in (((), "-"), ((("gas", 3), ("rent", 0)), "gas 3; rent 0"), ((("a", 0),), "a 0"),
                            ((("abcdefgh", GREAT), ("b", 10)), f"abcdefgh {GREAT}; b 10"),
                            (tuple((name, at) for at, name in enumerate("abcdef")), "a 0; b 1; c 2; d 3; e 4; f 5")):
            check_call(self, pairs_text, text, pairs=pairs)
            check_call(self, pairs_in, pairs, text=text)
        # They are written in the order in which they stand, but read only if they ascend.
        check_call(self, pairs_text, "rent 5; gas 3", pairs=(("rent", 5), ("gas", 3)))
        check_call(self, pairs_text, "a 1; a 1", pairs=(("a", 1), ("a", 1)))
        great = int("9" * 3000)
        check_same(self, pairs_in(pairs_text((("a", great),))), (("a", great),))

    def test_wrong_texts(self):
        for text in ("", "b 1; a 1", "a 1; a 1", "a 1; a 2", "a 01", "a 00", "a -1", "a +1", "a 1 ", " a 1",
                     "a  1", "a 1;b 2", "a 1 ; b 2", "a 1;  b 2", "a 1; b", "a", "1", "a a", "a 1; ", "; a 1",
                     "a 1; -", "-; a 1", "- 1", "A 1", "a 1.0", "a 1_0", "a 0x1", "a \u0663", "a \u00b2", "a 1\n",
                     "a1", "abcdefghi 1", "a 1 2", "a 1, b 2", "a 1e3"):
            check_raises(self, pairs_in, BadText(), text=text)

    def test_texts_with_one_sign_changed(self):
        for text in ("-", "a 10; b 0", "gas 3; rent 105"):
            for changed in changed_texts(text):
                if pairs_by(changed) is None:
                    with self.assertRaises(BadText):
                        pairs_in(changed)
                else:
                    check_same(self, pairs_in(changed), pairs_by(changed))
                    self.assertEqual(pairs_text(pairs_in(changed)), changed)


class BoardTexts(unittest.TestCase):

    def check_wrong(self, number, *lines):
        check_raises(self, board_in, BadLine(number), text="\n".join(lines))

    def check_board(self, board, text):
        """The board is written so, and read back; then it has no deed to take back."""
        for call in (lambda: board_text(board), lambda: board_text(board=board)):
            check_same(self, call(), text)
        for made in (board_in(text), board_in(text=text)):
            self.assertIsInstance(made, Board)
            check_same(self, seen(made), seen(board))
            self.assertTrue(made == board)
            self.assertIs(made.undo(), False)
            self.assertEqual(board_text(made), text)

    def test_written_and_read(self):
        self.check_board(Board(()), "bills -\nopen -\nback 0\nend")
        self.check_board(Board(("b", "a")), "bills a b\nopen a 0; b 0\nback 0\nend")
        board = Board(("rent", "gas"))
        board["ann"], board["bob"] = ("rent", "gas"), ()
        board.due("rent", 12)
        board.pay("bob", 3)
        board.frame("ann", ("rent",), None)
        self.check_board(board, TEXT)
        board.frame("bob", None, ())
        board["end"], board["back"], board["from"] = (), (), ("gas",)
        board.frame("from", (), ("gas",))
        board.frame("end", None, None)
        self.check_board(board, "\n".join(LINES[:3] + [
            "ann: rent gas", "back: -", "bob: -", "end: -", "from: gas", "ann from rent .. *", "bob from * .. -",
            "end from * .. *", "from from - .. gas", "end"]))

    def test_bills_with_the_words_of_the_lines(self):
        board = Board(("from", "end", "bills", "back", "open"))
        board["from"] = ("from", "end")
        board.frame("from", ("from",), ("from", "end", "bills"))
        board.due("end", GREAT)
        self.check_board(board, "\n".join([
            "bills back bills end from open", f"open back 0; bills 0; end {GREAT}; from 0; open 0", "back 0",
            "from: from end", "from from from .. from end bills", "end"]))

    def test_a_board_that_was_read_goes_on(self):
        board = board_in(TEXT)
        board.due("gas", 1)
        board.pay("ann", 20)
        self.assertEqual((board.owed, board.back), ((("gas", 0), ("rent", 0)), 10))
        for turn in range(2):
            self.assertIs(board.undo(), True)
        self.assertIs(board.undo(), False)
        self.assertEqual(board_text(board), TEXT)

    def test_a_line_is_missing(self):
        for many in range(len(LINES)):
            self.check_wrong(many, *LINES[:many])
        self.check_wrong(0)
        # Without one of the first ones the next one is wrong where it stands.
        self.check_wrong(0, *LINES[1:])
        self.check_wrong(1, LINES[0], *LINES[2:])
        self.check_wrong(2, *LINES[:2], *LINES[3:])
        self.check_wrong(4, *LINES[:3], *LINES[4:])

    def test_a_line_more(self):
        for line in ("", "end", "zed: -", "bob from * .. *", " "):
            self.check_wrong(7, *LINES, line)
        self.check_wrong(4, "bills -", "open -", "back 0", "end", "end", "nonsense")
        for number in range(len(LINES)):
            for line in ("", "nonsense", "bills gas rent"):
                if number or line != LINES[0]:
                    self.check_wrong(number, *LINES[:number], line, *LINES[number:])

    def test_wrong_lines(self):
        for number, line in (
                (0, "bills rent gas"), (0, "bills gas gas rent"), (0, "bills"), (0, "bills "), (0, "Bills gas rent"),
                (0, "gas rent"), (0, "bills gas  rent"), (0, "bills gas rent "), (0, " bills gas rent"),
                (1, "open gas 1"), (1, "open -"), (1, "open rent 12; gas 0"), (1, "open gas 0; rent 12; tax 0"),
                (1, "open gas 00; rent 12"), (1, "open gas 0;rent 12"), (1, "open gas -1; rent 12"),
                (1, "open food 0; rent 12"), (1, "open"), (1, "gas 0; rent 12"), (2, "back"), (2, "back -"),
                (2, "back 03"), (2, "back -3"), (2, "back  3"), (2, "back 3 "), (2, "back 3; 4"), (2, "3"),
                (2, "back three"), (3, "ann: rent tax"), (3, "ann: rent rent"), (3, "ann: "), (3, "ann:"),
                (3, "ann rent"), (3, "ann : rent"), (3, "Ann: rent"), (3, "annannann: rent"), (3, "ann: rent  gas"),
                (3, "ann: rent gas "), (3, "ann:  rent"), (4, "ann: -"), (4, "aa: -"), (4, "bob"),
                (5, "ann from gas .. *"), (5, "ann from * .. rent"), (5, "bob from rent .. *"), (5, "cid from * .. *"),
                (5, "ann from tax .. *"), (5, "ann from rent .. rent rent gas"), (5, "ann from rent .."),
                (5, "ann from rent"), (5, "ann from .. *"), (5, "ann from rent .. * .. *"), (5, "ann from rent ... *"),
                (5, "ann from rent..*"), (5, "ann  from rent .. *"), (5, "ann from  rent .. *"),
                (5, "ann from rent .. * "), (5, "ann from * .. gas"), (5, "ann to rent .. *"), (5, "ann from ** .. *"),
                (6, "END"), (6, "end "), (6, " end"), (6, "ann from rent .. *"), (6, "cid: -"), (6, "end."), (6, "")):
            self.check_wrong(number, *LINES[:number], line, *LINES[number + 1:])
        # The first wrong line counts.
        self.check_wrong(1, LINES[0], "nonsense", "nonsense", "nonsense")
        self.check_wrong(4, *LINES[:4], "ann: -", "nonsense", "end", "end")

    def test_texts_with_one_sign_changed(self):
        framed = "bills a\nopen a 10\nback 0\nx: -\ny: a\nx from - .. a\ny from a .. a\nend"
        for text in (TEXT, "bills -\nopen -\nback 0\nend", framed):
            for changed in changed_texts(text):
                number = board_by(changed)
                if number is None:
                    self.assertEqual(board_text(board_in(changed)), changed)
                else:
                    with self.assertRaises(ValueError) as caught:
                        board_in(changed)
                    self.assertIs(type(caught.exception), BadLine)
                    check_same(self, vars(caught.exception), {"number": number})

    def test_texts_with_lines_changed(self):
        lines = LINES[:3] + ["ann: rent gas", "bob: -", "cid: gas", "ann from rent .. *", "bob from * .. gas", "end"]
        for one, other in itertools.product(range(len(lines)), repeat=2):
            moved = lines[:one] + lines[one + 1:]
            for changed in (moved, moved[:other] + [lines[one]] + moved[other:],
                            lines[:other] + [lines[one]] + lines[other:]):
                number = board_by("\n".join(changed))
                if number is None:
                    self.assertEqual(board_text(board_in("\n".join(changed))), "\n".join(changed))
                else:
                    with self.assertRaises(BadLine) as caught:
                        board_in("\n".join(changed))
                    self.assertEqual(caught.exception.number, number)

    def test_walks(self):
        for seed in range(40):
            walk = Walk(random.Random(seed), ("a", "b", "c"), ("p", "q", "r"))
            board = Board(("a", "b", "c"))
            for turn in range(30):
                try:
                    done(board, walk.deed())
                except (LookupError, ValueError):
                    continue
                self.check_board(board, board_text(board))
                self.assertIsNone(board_by(board_text(board)))


class AllSmallRows(unittest.TestCase):

    def test_rows(self):
        for row in rows_of(("a", "bc", "zzzzzzzz", "d")):
            check_same(self, row_in(row_text(row)), row)


if __name__ == "__main__":
    unittest.main()
