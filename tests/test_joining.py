"""Lists that may join: ordinary inputs, edges, wrong inputs, and all small cases beside a slow second way."""

import itertools
import unittest

from helping import all_alike, books_of, check_call, check_raises, check_same, rests_alike, rows_of, sets_of
from ownlists.agree import is_good
from ownlists.books import struck
from ownlists.errors import NoBill, NoPayer
from ownlists.joining import fewest_struck, having, how_many_join, joining, joining_from, longest_beginning, may_join
from ownlists.joining import most_kept, whole_kept

NONE = ((), ())
BOOK = (("gas", "rent", "tax"), (("ann", ("rent", "gas", "tax")), ("bob", ("gas", "tax")), ("cid", ("tax", "rent"))))
PAIR = (BOOK[0], BOOK[1][:2])
JOINING_PAIR = [(), ("gas", "tax"), ("rent", "gas", "tax"), ("tax",), ("tax", "gas")]
ONLY_BILLS = (("a", "b"), ())
ONLY_PAYERS = ((), (("a", ()), ("zzzzzzzz", ())))
EMPTY_LISTS = (("a", "b"), (("p", ()), ("q", ())))
# The NAMEs are bills and payers.
BOTH = (("a", "b"), (("a", ("a",)), ("b", ("a", "b")), ("c", ("b",))))
# Each LIST goes on from another bill: each two of them agree.
FIVE = (tuple("abcde"), tuple(("opqrs"[at], tuple("abcde"[at:] + "abcde"[:at])) for at in range(5)))
# Eight payers: those of the first four agree, and those of the last four, but none of the ones with the others.
EIGHT = (("a", "b"), tuple((name, ("a",) if name < "e" else ("a", "b")) for name in "abcdefgh"))


def joining_slowly(book):
    """The ascending list of all LISTS that agree with each LIST of the BOOK, in a second way."""
    return sorted(row for row in rows_of(book[0]) if all(rests_alike(row, other) for payer, other in book[1]))


def others(book, payer):
    """The BOOK without this payer."""
    return book[0], tuple(pair for pair in book[1] if pair[0] != payer)


def kept_slowly(book):
    """All sets of payers each two of whose LISTS agree, in a second way."""
    rows = dict(book[1])
    return [some for some in sets_of(tuple(rows)) if all_alike([rows[payer] for payer in some])]


def struck_slowly(book):
    """All sets of bills without which the BOOK is good, in a second way."""
    found = []
    for some in sets_of(book[0]):
        rows = [tuple(bill for bill in row if bill not in some) for payer, row in book[1]]
        if all_alike(rows):
            found.append(some)
    return found


class Joining(unittest.TestCase):

    def test_may_join(self):
        for book, row, may in (
                (PAIR, ("tax",), True), (PAIR, ("tax", "rent"), False), (PAIR, ("gas", "tax", "rent"), False),
                (PAIR, (), True), (PAIR, ("rent", "gas", "tax"), True), (BOOK, ("tax", "rent"), False),
                (BOOK, ("tax",), False), (BOOK, (), True), (NONE, (), True), (ONLY_BILLS, ("b", "a"), True),
                (EMPTY_LISTS, ("a",), True), (ONLY_PAYERS, (), True), (BOTH, ("b",), True), (BOTH, ("a",), False)):
            check_call(self, may_join, may, book=book, row=row)

    def test_rows_with_no_bill(self):
        for book, row, name in (
                (PAIR, ("tax", "car", "dog"), "car"), (PAIR, ("dog", "tax", "car"), "dog"), (PAIR, ("ann",), "ann"),
                (NONE, ("a",), "a"), (ONLY_PAYERS, ("zzzzzzzz", "a"), "zzzzzzzz"), (BOTH, ("a", "c"), "c"),
                (BOOK, ("tax", "rent", "gas", "water"), "water")):
            check_raises(self, may_join, NoBill(name), book=book, row=row)
            check_raises(self, joining_from, NoBill(name), book=book, row=row)

    def check_joining(self, book, rows):
        check_call(self, joining, rows, book=book)
        check_call(self, how_many_join, len(rows), book=book)

    def test_joining(self):
        self.check_joining(PAIR, JOINING_PAIR)
        self.check_joining(NONE, [()])
        self.check_joining(ONLY_PAYERS, [()])
        self.check_joining(ONLY_BILLS, [(), ("a",), ("a", "b"), ("b",), ("b", "a")])
        self.check_joining(EMPTY_LISTS, [(), ("a",), ("a", "b"), ("b",), ("b", "a")])
        self.check_joining((("a",), (("p", ("a",)),)), [(), ("a",)])
        self.check_joining((("a", "b"), (("p", ("a",)),)), [(), ("a",), ("b",), ("b", "a")])
        self.check_joining(BOTH, [(), ("b",)])

    def test_joining_of_five_bills(self):
        free = (tuple("abcde"), ())
        check_same(self, how_many_join(free), 326)
        check_same(self, joining(free), sorted(rows_of("abcde")))
        for book in (FIVE, others(FIVE, "o"), (FIVE[0], FIVE[1][:1]), (FIVE[0], (("p", ("e", "a")), ("q", ("c",))))):
            check_same(self, joining(book), joining_slowly(book))
            check_same(self, how_many_join(book), len(joining_slowly(book)))
            for row in ((), ("e",), ("a", "c"), ("a", "b", "c", "d", "e")):
                starting = [other for other in joining_slowly(book) if other[:len(row)] == row]
                check_same(self, joining_from(book, row), starting)

    def test_joining_from(self):
        for book, row, rows in (
                (PAIR, ("tax",), [("tax",), ("tax", "gas")]), (PAIR, ("gas", "rent"), []), (PAIR, (), JOINING_PAIR),
                (PAIR, ("gas",), [("gas", "tax")]), (PAIR, ("rent", "gas", "tax"), [("rent", "gas", "tax")]),
                (NONE, (), [()]), (ONLY_BILLS, ("b",), [("b",), ("b", "a")]), (ONLY_PAYERS, (), [()])):
            check_call(self, joining_from, rows, book=book, row=row)

    def test_having(self):
        check_call(self, having, JOINING_PAIR, book=BOOK, payer="cid")
        check_call(self, having, [()], book=ONLY_PAYERS, payer="a")
        check_call(self, having, [(), ("a",), ("a", "b"), ("b",), ("b", "a")], book=EMPTY_LISTS, payer="q")
        check_call(self, having, [(), ("a",), ("b",), ("b", "a")], book=others(BOTH, "b"), payer="c")
        for book in (BOOK, PAIR, BOTH, FIVE):
            for payer, row in book[1]:
                check_call(self, having, joining_slowly(others(book, payer)), book=book, payer=payer)

    def test_longest_beginning(self):
        for book, payer, row in (
                (BOOK, "cid", ("tax",)), (BOOK, "ann", ("rent",)), (BOOK, "bob", ()),
                (PAIR, "ann", ("rent", "gas", "tax")), (PAIR, "bob", ("gas", "tax")), (ONLY_PAYERS, "a", ()),
                (EMPTY_LISTS, "p", ()), (BOTH, "a", ()), (BOTH, "b", ("a",)), (BOTH, "c", ("b",)),
                ((("a", "b"), (("p", ("b", "a")),)), "p", ("b", "a")),
                # ("a",) does not agree with the other LIST, ("a", "b") does: the longest one counts.
                ((("a", "b", "c"), (("p", ("a", "b", "c")), ("q", ("a", "b")))), "p", ("a", "b"))):
            check_call(self, longest_beginning, row, book=book, payer=payer)

    def test_no_payer(self):
        for function in (having, longest_beginning):
            for book, payer in ((BOOK, "dan"), (BOOK, "gas"), (NONE, "a"), (ONLY_BILLS, "a"), (PAIR, "cid")):
                check_raises(self, function, NoPayer(payer), book=book, payer=payer)

    def test_all_books_of_three_bills_and_two_payers(self):
        rows = sorted(rows_of("abc"))
        for book in books_of("abc", "pq"):
            joined = joining_slowly(book)
            check_same(self, joining(book), joined)
            for row in rows:
                self.assertIs(may_join(book, row), row in joined)
                check_same(self, joining_from(book, row), [other for other in joined if other[:len(row)] == row])
            for payer, row in book[1]:
                having_rows = joining_slowly(others(book, payer))
                check_same(self, having(book, payer), having_rows)
                longest = [row[:many] for many in range(len(row) + 1) if row[:many] in having_rows][-1]
                check_same(self, longest_beginning(book, payer), longest)


class KeptAndStruck(unittest.TestCase):

    def check_kept(self, book):
        """Beside all sets of payers, by size and by what can be added."""
        sets = kept_slowly(book)
        most = max(len(some) for some in sets)
        check_same(self, most_kept(book), sorted(some for some in sets if len(some) == most)[0])
        whole = [some for some in sets if not any(set(some) < set(other) for other in sets)]
        check_same(self, whole_kept(book), sorted(whole))

    def check_struck(self, book):
        sets = struck_slowly(book)
        fewest = min(len(some) for some in sets)
        check_same(self, fewest_struck(book), sorted(some for some in sets if len(some) == fewest)[0])

    def test_kept(self):
        for book, most, whole in (
                (BOOK, ("ann", "bob"), [("ann", "bob"), ("cid",)]), (PAIR, ("ann", "bob"), [("ann", "bob")]),
                (NONE, (), [()]), (ONLY_BILLS, (), [()]), (ONLY_PAYERS, ("a", "zzzzzzzz"), [("a", "zzzzzzzz")]),
                (EMPTY_LISTS, ("p", "q"), [("p", "q")]), (BOTH, ("a", "c"), [("a", "c"), ("b", "c")]),
                (EIGHT, tuple("abcd"), [tuple("abcd"), tuple("efgh")]), (FIVE, tuple("opqrs"), [tuple("opqrs")]),
                # Of sets with as many payers the least one counts, but the one with the most comes first.
                ((("a", "b"), (("p", ("a",)), ("q", ("a", "b")), ("r", ("a", "b")), ("s", ("a",)))), ("p", "s"),
                 [("p", "s"), ("q", "r")]),
                ((("a", "b"), (("p", ("a",)), ("q", ("a", "b")), ("r", ("a", "b")))), ("q", "r"),
                 [("p",), ("q", "r")])):
            check_call(self, most_kept, most, book=book)
            check_call(self, whole_kept, whole, book=book)
            self.check_kept(book)

    def test_struck(self):
        for book, some in (
                (BOOK, ("rent",)), (PAIR, ()), (NONE, ()), (ONLY_BILLS, ()), (ONLY_PAYERS, ()), (EMPTY_LISTS, ()),
                (FIVE, ()), (BOTH, ("a",)), (EIGHT, ("a",)),
                ((("a", "b", "c", "d"), (("p", ("a", "b")), ("q", ("a",)), ("r", ("d", "c")), ("s", ("d",)))),
                 ("a", "c")),
                ((("a", "b", "c"), (("p", ("c",)), ("q", ("c", "b")), ("r", ("c", "a")))), ("c",))):
            check_call(self, fewest_struck, some, book=book)
            self.check_struck(book)

    def test_all_books_of_two_bills_and_three_payers(self):
        for book in books_of("ab", "pqr"):
            self.check_kept(book)
            self.check_struck(book)

    def test_books_of_three_bills_and_four_payers(self):
        rows = rows_of("abc")
        for first, second in itertools.product(rows, rows):
            for third, last in ((rows[5], rows[9]), (first[::-1], second[1:]), (second[::-1], rows[-1])):
                book = (tuple("abc"), tuple(zip("pqrs", (first, second, third, last))))
                self.check_kept(book)
                self.check_struck(book)

    def test_books_of_six_bills_and_eight_payers(self):
        names = tuple("abcdef")
        rows = [names, names[::-1], names[2:] + names[:2], ("a", "c", "e"), ("c", "a"), ("f",), ()]
        rows = rows + [("b", "d", "a", "c")]
        for turn in range(8):
            turned = rows[turn:] + rows[:turn]
            book = (names, tuple(zip("pqrstuvw", turned)))
            self.check_kept(book)
            self.check_struck(book)
            left = book
            for bill in fewest_struck(book):
                left = struck(left, bill)
            self.assertTrue(is_good(left))


if __name__ == "__main__":
    unittest.main()
