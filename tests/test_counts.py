"""Payments of one, counted: ordinary inputs, edges, wrong inputs, and all small cases beside all rows of payers."""

import itertools
import unittest

from helping import books_of, check_call, check_raises, check_same, coins, dues_of
from ownlists.counts import after_ones, how_many_pay_all, how_many_rows, how_many_without_back, nth_row, number_of_row
from ownlists.counts import opens_after
from ownlists.errors import NoNumber, NoPayer

NONE = ((), ())
WAY = (("a", "b", "c"), (("p", ("a", "b", "c")), ("q", ("b", "c")), ("r", ("c",))))
RING = (("a", "b", "c"), (("p", ("a", "b", "c")), ("q", ("b", "c", "a")), ("r", ("c", "a", "b"))))
ONES, NOTHING = (("a", 1), ("b", 1), ("c", 1)), (("a", 0), ("b", 0), ("c", 0))
ONLY_BILLS = (("a", "abcdefgh"), ())
ONLY_PAYERS = ((), (("a", ()), ("zzzzzzzz", ())))
EMPTY_LISTS = (("a", "b"), (("p", ()), ("q", ())))
# The NAMEs are bills and payers.
BOTH = (("a", "b"), (("a", ("b", "a")), ("b", ("a",))))
ODD = (("a", "b", "c"), (("p", ("a", "c")), ("q", ("a", "b")), ("r", ("b",))))
GREAT = 10 ** 40


def behind(book, dues, row):
    """What is due behind these payers, and how much is given back, coin by coin."""
    end, moments, triples, back = coins(book, dues, [(payer, 1) for payer in row], range(len(row)))
    return end, sum(back)


def rows_by_end(book, dues, many):
    """The dict of the ascending lists of the rows of just many payers, by what is due behind them."""
    found = {}
    for row in itertools.product([payer for payer, row in book[1]], repeat=many):
        found.setdefault(behind(book, dues, row)[0], []).append(row)
    return {end: sorted(rows) for end, rows in found.items()}


def zeros(names):
    """Each of these NAMEs with 0."""
    return tuple((name, 0) for name in names)


def going_on(many, whole):
    """A BOOK of so many bills and payers, each LIST from another bill on to the last one, or round to all bills."""
    names = tuple("abcd"[:many])
    rows = [names[at:] + (names[:at] if whole else ()) for at in range(many)]
    return names, tuple(zip("pqrs", rows))


class Ones(unittest.TestCase):

    def test_after_ones(self):
        for book, dues, row, opens in (
                (WAY, ONES, ("q", "q"), (1, 0, 0)), (WAY, ONES, ("r", "r"), (1, 1, 0)),
                (RING, ONES, ("r", "r"), (0, 1, 0)), (WAY, ONES, (), (1, 1, 1)),
                (WAY, ONES, ("r", "q", "p"), (0, 0, 0)), (WAY, NOTHING, ("p",), (0, 0, 0)),
                (WAY, (("a", 0), ("b", 4), ("c", 2)), ("p", "p", "r", "r", "r"), (0, 2, 0)),
                (ODD, (("a", 1), ("b", 2), ("c", 1)), ("q", "p", "p", "r"), (0, 1, 0)),
                (WAY, (("a", 4), ("b", 4), ("c", 4)), ("p",) * 60, (0, 0, 0)),
                (WAY, (("a", 4), ("b", 4), ("c", 4)), ("r", "q") * 30, (4, 0, 0))):
            check_call(self, after_ones, tuple(zip(book[0], opens)), book=book, dues=dues, row=row)
        check_call(self, after_ones, (), book=NONE, dues=(), row=())
        check_call(self, after_ones, (), book=ONLY_PAYERS, dues=(), row=("zzzzzzzz", "a"))
        dues = (("a", 1), ("abcdefgh", 4))
        check_call(self, after_ones, dues, book=ONLY_BILLS, dues=dues, row=())
        check_call(self, after_ones, (("a", 3), ("b", 2)), book=BOTH, dues=(("a", 4), ("b", 3)), row=("b", "a"))

    def test_opens_after(self):
        pairs = (((("a", 0), ("b", 0), ("c", 1)), 3), ((("a", 0), ("b", 1), ("c", 0)), 2),
                 ((("a", 1), ("b", 0), ("c", 0)), 3), ((("a", 1), ("b", 1), ("c", 0)), 1))
        check_call(self, opens_after, pairs, book=WAY, dues=ONES, many=2)
        check_call(self, opens_after, ((ONES, 1),), book=WAY, dues=ONES, many=0)
        check_call(self, opens_after, ((NOTHING, 27),), book=RING, dues=ONES, many=3)
        check_call(self, opens_after, ((NOTHING, 3 ** 60),), book=RING, dues=NOTHING, many=60)
        check_call(self, opens_after, ((zeros("ab"), 2 ** 60),), book=EMPTY_LISTS, dues=zeros("ab"), many=60)

    def test_no_payers_and_no_bills(self):
        dues = (("a", 1), ("abcdefgh", 4))
        check_call(self, opens_after, ((dues, 1),), book=ONLY_BILLS, dues=dues, many=0)
        check_call(self, opens_after, (((), 1),), book=NONE, dues=(), many=0)
        for many in (1, 2, 60):
            check_call(self, opens_after, (), book=ONLY_BILLS, dues=dues, many=many)
            check_call(self, opens_after, (), book=NONE, dues=(), many=many)
            check_call(self, opens_after, (((), 2 ** many),), book=ONLY_PAYERS, dues=(), many=many)
            check_call(self, how_many_rows, 0, book=ONLY_BILLS, dues=dues, many=many, left=dues)
            check_call(self, how_many_pay_all, 0, book=NONE, dues=(), many=many)
            check_call(self, how_many_pay_all, 2 ** many, book=ONLY_PAYERS, dues=(), many=many)
            check_call(self, how_many_without_back, 0, book=ONLY_BILLS, dues=dues, many=many)
            check_call(self, how_many_without_back, 0, book=ONLY_PAYERS, dues=(), many=many)
            check_raises(self, nth_row, NoNumber(0), book=ONLY_BILLS, dues=dues, many=many, left=dues, number=0)
            check_raises(self, nth_row, NoNumber(0), book=NONE, dues=(), many=many, left=(), number=0)
        check_call(self, how_many_rows, 1, book=ONLY_BILLS, dues=dues, many=0, left=dues)
        check_call(self, how_many_pay_all, 0, book=ONLY_BILLS, dues=dues, many=0)
        check_call(self, how_many_pay_all, 1, book=NONE, dues=(), many=0)
        check_call(self, how_many_without_back, 1, book=ONLY_BILLS, dues=dues, many=0)
        check_call(self, how_many_without_back, 1, book=NONE, dues=(), many=0)
        check_call(self, nth_row, (), book=ONLY_BILLS, dues=dues, many=0, left=dues, number=0)
        check_call(self, nth_row, (), book=NONE, dues=(), many=0, left=(), number=0)
        check_call(self, number_of_row, 0, book=NONE, dues=(), row=())
        check_call(self, number_of_row, 0, book=ONLY_BILLS, dues=dues, row=())
        check_call(self, number_of_row, 5, book=ONLY_PAYERS, dues=(), row=("zzzzzzzz", "a", "zzzzzzzz"))

    def test_how_many(self):
        for book, dues, many, left, rows in (
                (WAY, ONES, 2, (0, 1, 0), 2), (WAY, ONES, 3, (0, 0, 0), 16), (WAY, ONES, 2, (0, 0, 0), 0),
                (WAY, ONES, 2, (1, 1, 1), 0), (WAY, ONES, 0, (1, 1, 1), 1), (WAY, ONES, 0, (0, 1, 1), 0),
                (WAY, ONES, 60, (1, 1, 1), 0), (WAY, ONES, 60, (1, 1, 0), 1), (RING, ONES, 60, (0, 0, 0), 3 ** 60),
                # a is paid by p alone, b by p and q: a is due still behind all rows of q and r.
                (WAY, ONES, 60, (1, 0, 0), 2 ** 60 - 1), (EMPTY_LISTS, (("a", 4), ("b", 4)), 60, (4, 4), 2 ** 60),
                (EMPTY_LISTS, (("a", 4), ("b", 4)), 60, (4, 3), 0), (BOTH, (("a", 2), ("b", 1)), 3, (0, 0), 7)):
            left = tuple(zip(book[0], left))
            check_call(self, how_many_rows, rows, book=book, dues=dues, many=many, left=left)
            if left == zeros(book[0]):
                check_call(self, how_many_pay_all, rows, book=book, dues=dues, many=many)
        for book, dues, many, rows in (
                (WAY, ONES, 2, 8), (WAY, ONES, 0, 1), (WAY, ONES, 3, 16), (WAY, ONES, 4, 0), (WAY, NOTHING, 1, 0),
                (RING, ONES, 3, 27), (RING, ONES, 4, 0), (EMPTY_LISTS, (("a", 4), ("b", 4)), 1, 0),
                (RING, (("a", 4), ("b", 4), ("c", 4)), 12, 3 ** 12), (RING, (("a", 4), ("b", 4), ("c", 4)), 60, 0)):
            check_call(self, how_many_without_back, rows, book=book, dues=dues, many=many)

    def test_numbers(self):
        for book, dues, many, left, number, row in (
                (WAY, ONES, 3, NOTHING, 0, ("p", "p", "p")), (WAY, ONES, 3, NOTHING, 12, ("q", "r", "p")),
                (WAY, ONES, 3, NOTHING, 15, ("r", "q", "p")), (WAY, ONES, 0, ONES, 0, ()),
                (RING, NOTHING, 60, NOTHING, 3 ** 60 - 1, ("r",) * 60),
                (RING, ONES, 60, NOTHING, 3 ** 59, ("q",) + ("p",) * 59),
                (WAY, ONES, 60, (("a", 1), ("b", 1), ("c", 0)), 0, ("r",) * 60),
                (WAY, ONES, 60, (("a", 1), ("b", 0), ("c", 0)), 2 ** 60 - 2, ("r",) * 59 + ("q",))):
            check_call(self, nth_row, row, book=book, dues=dues, many=many, left=left, number=number)
            check_call(self, number_of_row, number, book=book, dues=dues, row=row)

    def test_greatest_sizes(self):
        names = tuple("abcd")
        rows = [names, names[::-1], ("b", "d"), ("c",), (), ("d", "a"), ("a", "c"), ("b", "a", "c")]
        book, dues = (names, tuple(zip("opqrstuv", rows))), tuple(zip(names, (4, 4, 4, 4)))
        for many in (16, 60):
            pairs = opens_after(book, dues, many)
            self.assertEqual(sum(number for opens, number in pairs), 8 ** many)
            for opens, number in pairs[::211] + pairs[-1:]:
                check_same(self, how_many_rows(book, dues, many, opens), number)
                for place in (0, number // 3, number - 1):
                    row = nth_row(book, dues, many, opens, place)
                    check_same(self, after_ones(book, dues, row), opens)
                    check_same(self, number_of_row(book, dues, row), place)
                with self.assertRaises(NoNumber):
                    nth_row(book, dues, many, opens, number)


class Guarantees(unittest.TestCase):

    def test_each_list_goes_on_to_the_last_bill(self):
        for many in range(1, 5):
            book = going_on(many, False)
            check_call(self, how_many_pay_all, (many + 1) ** (many - 1), book=book,
                       dues=tuple((name, 1) for name in book[0]), many=many)

    def test_each_list_goes_round(self):
        for many in range(1, 5):
            book = going_on(many, True)
            check_call(self, how_many_pay_all, many ** many, book=book,
                       dues=tuple((name, 1) for name in book[0]), many=many)


class Slowly(unittest.TestCase):

    def check_many(self, book, dues, many):
        found = rows_by_end(book, dues, many)
        check_same(self, opens_after(book, dues, many), tuple((end, len(found[end])) for end in sorted(found)))
        for left in dues_of(book[0], range(3)):
            check_same(self, how_many_rows(book, dues, many, left), len(found.get(left, [])))
        check_same(self, how_many_pay_all(book, dues, many), len(found.get(zeros(book[0]), [])))
        rows = [row for end in found for row in found[end]]
        unspent = [row for row in rows if behind(book, dues, row)[1] == 0]
        check_same(self, how_many_without_back(book, dues, many), len(unspent))
        for end, rows in found.items():
            for number, row in enumerate(rows):
                check_same(self, nth_row(book, dues, many, end, number), row)
                check_same(self, number_of_row(book, dues, row), number)
                check_same(self, after_ones(book, dues, row), end)
            with self.assertRaises(NoNumber):
                nth_row(book, dues, many, end, len(rows))

    def test_all_books_of_two_bills(self):
        for book in books_of("ab", "pq"):
            for dues in dues_of("ab", range(3)):
                for many in range(4):
                    self.check_many(book, dues, many)

    def test_some_books_of_three_bills(self):
        for book in list(books_of("abc", "pqr"))[::131] + [WAY, RING, ODD]:
            for dues in (ONES, tuple(zip("abc", (2, 0, 1))), tuple(zip("abc", (1, 2, 2)))):
                for many in (2, 4):
                    self.check_many(book, dues, many)


class Wrong(unittest.TestCase):

    def test_the_first_one_that_is_no_payer(self):
        for book, row, name in (
                (WAY, ("p", "s"), "s"), (WAY, ("s", "t"), "s"), (WAY, ("p", "a", "t"), "a"), (WAY, ("p", "", "q"), ""),
                (NONE, ("a",), "a"), (ONLY_BILLS, ("abcdefgh", "a"), "abcdefgh"),
                (ONLY_PAYERS, ("zzzzzzz",), "zzzzzzz"),
                (WAY, ("p",) * 59 + ("P",), "P"), (WAY, ("p", "no name", "q"), "no name")):
            check_raises(self, after_ones, NoPayer(name), book=book, dues=zeros(book[0]), row=row)
            check_raises(self, number_of_row, NoPayer(name), book=book, dues=zeros(book[0]), row=row)

    def test_no_number(self):
        for many, left, numbers in (
                (3, NOTHING, (16, 17, GREAT, -1, -16, -GREAT)), (2, NOTHING, (0, 1, -1)), (0, ONES, (1, -1)),
                (0, NOTHING, (0,)), (60, ONES, (0, -1)), (60, NOTHING, (3 ** 60, -1))):
            for number in numbers:
                check_raises(self, nth_row, NoNumber(number), book=WAY, dues=ONES, many=many, left=left, number=number)


if __name__ == "__main__":
    unittest.main()
