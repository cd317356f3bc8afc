"""Lists changed: ordinary inputs, edges, wrong inputs, and all small cases beside a slow second way."""

import itertools
import unittest

from helping import all_alike, books_of, check_call, check_raises, check_same, coins, dues_of, rows_of
from ownlists.changed import fewest_steps, good_exchanges, good_outs, good_puts, is_parting_payment, nearest_lists
from ownlists.changed import parting_payment, unlike_payers
from ownlists.errors import NoBill, NoPayer, OtherBook
from ownlists.laid import is_dues

NONE = ((), ())
BILLS = ("food", "gas", "rent")
BOOK = (BILLS, (("ann", ("rent", "gas")), ("bob", ("gas", "rent")), ("cid", ("rent", "food"))))
TIDY = (BILLS, (("ann", ("rent", "gas")), ("bob", ("gas", "rent")), ("cid", ("rent",))))
ONLY_BILLS = (("a", "b"), ())
ONLY_PAYERS = ((), (("a", ()), ("zzzzzzzz", ())))
EMPTY_LISTS = (("a", "b"), (("p", ()), ("q", ())))
# The NAMEs are bills and payers.
BOTH = (("a", "b"), (("a", ("b", "a")), ("b", ("a",))))
GREAT = 10 ** 40


def with_row(book, payer, row):
    """The BOOK in which this payer has this LIST."""
    return book[0], tuple((name, tuple(row) if name == payer else old) for name, old in book[1])


def good(book):
    """Whether the BOOK is good, in a second way."""
    return all_alike([row for payer, row in book[1]])


def steps_slowly(one, other, names):
    """How few steps lead from one LIST to another one, by going all ways of these NAMEs."""
    reached, steps = {one}, 0
    while other not in reached:
        news = set()
        for row in reached:
            news.update(row[:place] + row[place + 1:] for place in range(len(row)))
            news.update(row[:place] + (name,) + row[place:] for place in range(len(row) + 1)
                        for name in names if name not in row)
        reached, steps = reached | news, steps + 1
    return steps


def left_by(book, dues, payer, amount):
    """What is open behind this PAYMENT, coin by coin."""
    return coins(book, dues, [(payer, amount)], (0,))[0]


class OneList(unittest.TestCase):

    def test_good_exchanges(self):
        circle = (("a", "b", "c"), (("p", ("a", "b", "c")), ("q", ("b", "c", "a"))))
        for book, payer, places in (
                (BOOK, "ann", ()), (TIDY, "ann", (0,)), (TIDY, "cid", ()), (ONLY_PAYERS, "a", ()),
                (EMPTY_LISTS, "q", ()), (BOTH, "a", ()), (BOTH, "b", ()),
                (circle, "p", (1,)), ((circle[0], circle[1][:1]), "p", (0, 1)),
                ((circle[0], (("p", ("a", "b", "c")), ("q", ("c", "b")))), "p", (1,)),
                ((("a", "b"), (("p", ("b", "a")), ("q", ("a", "b")))), "p", (0,))):
            check_call(self, good_exchanges, places, book=book, payer=payer)

    def test_good_puts(self):
        for book, payer, bill, places in (
                (BOOK, "ann", "food", ()), (TIDY, "cid", "gas", (0, 1)), (TIDY, "cid", "rent", ()),
                (TIDY, "cid", "food", ()), (TIDY, "ann", "rent", ()), (TIDY, "ann", "food", ()),
                (EMPTY_LISTS, "p", "a", (0,)), (BOTH, "b", "b", (0, 1)), (BOTH, "a", "a", ()),
                ((("a", "b"), (("p", ("b",)),)), "p", "a", (0, 1)),
                ((("a", "b", "c"), (("p", ("b", "c")), ("q", ("b",)))), "q", "c", (0, 1)),
                ((("a", "b", "c"), (("p", ("b", "c")), ("q", ("b",)))), "q", "a", ())):
            check_call(self, good_puts, places, book=book, payer=payer, bill=bill)

    def test_good_outs(self):
        for book, payer, bills in (
                (BOOK, "cid", ("rent",)), (BOOK, "ann", ()), (TIDY, "ann", ("gas",)), (TIDY, "cid", ("rent",)),
                (ONLY_PAYERS, "zzzzzzzz", ()), (EMPTY_LISTS, "p", ()), (BOTH, "a", ("a", "b")), (BOTH, "b", ("a",)),
                ((("a", "b"), (("p", ("b", "a")),)), "p", ("a", "b"))):
            check_call(self, good_outs, bills, book=book, payer=payer)

    def test_fewest_steps(self):
        for one, other, steps in (
                (("a", "b", "c"), ("c", "a", "b"), 2), ((), ("a", "b"), 2), (("a", "b"), ("b", "a"), 2), ((), (), 0),
                (("a",), ("a",), 0), (("a",), ("b",), 2), (("a", "b", "c"), ("c", "b", "a"), 4),
                (("a", "b"), ("a",), 1), (("abcdefgh",), ("abcdefg",), 2),
                (("a", "c", "b", "d"), ("a", "b", "c", "d"), 2),
                (tuple("abcdef"), tuple("fedcba"), 10), (tuple("abcdef"), tuple("bcdefa"), 2),
                (tuple("abcdefghijklmnopqrstuvwxyz"), tuple("zyxwvutsrqponmlkjihgfedcba"), 50)):
            check_call(self, fewest_steps, steps, one=one, other=other)
            check_call(self, fewest_steps, steps, one=other, other=one)

    def test_nearest_lists(self):
        for book, payer, pair in (
                (BOOK, "cid", (1, [("food",)])), (BOOK, "ann", None), (BOOK, "bob", None),
                (TIDY, "cid", (1, [(), ("gas", "rent"), ("rent", "gas")])), (TIDY, "ann", (1, [("rent",)])),
                (BOTH, "a", (0, [("b", "a")])), (BOTH, "b", (0, [("a",)])), (ONLY_PAYERS, "a", (0, [()])),
                (EMPTY_LISTS, "p", (0, [()])), ((("a",), (("p", ("a",)),)), "p", (0, [("a",)])),
                (with_row(BOOK, "ann", ("food", "rent")), "cid", (1, [("rent",)])),
                (with_row(BOOK, "ann", ()), "cid", (1, [("food",), ("rent",)])),
                (with_row(BOOK, "ann", ()), "bob",
                 (1, [("gas",), ("gas", "food", "rent"), ("gas", "rent", "food")])),
                (with_row(BOOK, "cid", ("gas", "food")), "ann", None)):
            check_call(self, nearest_lists, pair, lists_inside=pair is not None, book=book, payer=payer)

    def test_returned_lists_are_new(self):
        first = nearest_lists(BOOK, "cid")
        first[1].append("spoilt")
        check_same(self, nearest_lists(BOOK, "cid"), (1, [("food",)]))


class TwoBooks(unittest.TestCase):

    def test_unlike_payers(self):
        for one, other, names in ((BOOK, TIDY, ("cid",)), (TIDY, BOOK, ("cid",)), (BOOK, BOOK, ()), (NONE, NONE, ()),
                                  (ONLY_BILLS, ONLY_BILLS, ()), (ONLY_PAYERS, ONLY_PAYERS, ()),
                                  (BOTH, with_row(with_row(BOTH, "a", ()), "b", ("b",)), ("a", "b"))):
            check_call(self, unlike_payers, names, one=one, other=other)

    def test_parting_payment(self):
        for one, other in ((BOOK, TIDY), (TIDY, BOOK), (BOTH, with_row(BOTH, "a", ("b",))),
                           (BOTH, with_row(BOTH, "a", ("a", "b"))), (EMPTY_LISTS, with_row(EMPTY_LISTS, "q", ("b",)))):
            triple = parting_payment(one, other)
            check_call(self, parting_payment, triple, one=one, other=other)
            check_call(self, is_parting_payment, True, one=one, other=other, thing=triple)
            check_call(self, is_parting_payment, True, one=other, other=one, thing=triple)
            check_call(self, is_parting_payment, False, one=one, other=one, thing=triple)
        for book in (BOOK, TIDY, NONE, ONLY_BILLS, ONLY_PAYERS, EMPTY_LISTS):
            check_call(self, parting_payment, None, one=book, other=book)

    def test_is_parting_payment(self):
        for due, payer, amount, parting in (
                ((1, 0, 0), "cid", 1, True), ((0, 1, 1), "cid", 5, False), ((1, 0, 1), "cid", 1, False),
                ((1, 0, 1), "cid", 2, True), ((1, 0, 0), "cid", 0, False), ((1, 1, 1), "ann", 3, False),
                ((1, 0, 0), "dan", 1, False), ((GREAT, 0, GREAT), "cid", GREAT + 1, True),
                ((GREAT, 0, GREAT), "cid", GREAT, False), ((1, 0, 0), "food", 1, False), ((1, 0, 0), "cid", -1, False),
                ((1, 0, 0), "cid", True, False), ((1, 0, 0), None, 1, False), ((1, 0, 0), ("cid",), 1, False)):
            thing = (tuple(zip(BILLS, due)), payer, amount)
            check_call(self, is_parting_payment, parting, one=BOOK, other=TIDY, thing=thing)
            check_call(self, is_parting_payment, False, one=BOOK, other=TIDY, thing=list(thing))
            check_call(self, is_parting_payment, False, one=BOOK, other=TIDY, thing=(list(thing[0]), payer, amount))
            check_call(self, is_parting_payment, False, one=BOOK, other=TIDY, thing=thing + (1,))
            check_call(self, is_parting_payment, False, one=BOOK, other=TIDY, thing=thing[:2])
            check_call(self, is_parting_payment, False, one=BOOK, other=TIDY, thing=(thing[0][1:], payer, amount))

    def test_the_guarantee(self):
        """The ENDs by two BOOKs are the same exactly if no LIST is unlike: otherwise one PAYMENT shows it."""
        for one, other in itertools.product(list(books_of("ab", "pq"))[::2], repeat=2):
            names = unlike_payers(one, other)
            check_same(self, names, tuple(payer for (payer, row), (name, old) in zip(one[1], other[1]) if row != old))
            asked = [(dues, payer, amount) for dues in dues_of("ab", range(2)) for payer in "pq" for amount in range(3)]
            found = [(dues, payer, amount) for dues, payer, amount in asked
                     if left_by(one, dues, payer, amount) != left_by(other, dues, payer, amount)]
            self.assertEqual(found == [], names == ())
            self.assertEqual({payer for dues, payer, amount in found}, set(names))
            triple = parting_payment(one, other)
            self.assertEqual(triple is None, names == ())
            if triple is not None:
                dues, payer, amount = triple
                self.assertIs(is_dues(one, dues), True)
                self.assertNotEqual(left_by(one, dues, payer, amount), left_by(other, dues, payer, amount))
            for thing in asked:
                self.assertIs(is_parting_payment(one, other, thing), thing in found)


class Slowly(unittest.TestCase):

    def check_list(self, book, payer, row):
        places = tuple(place for place in range(len(row) - 1) if good(with_row(
            book, payer, row[:place] + row[place:place + 2][::-1] + row[place + 2:])))
        check_same(self, good_exchanges(book, payer), places)
        outs = sorted(bill for bill in row if good(with_row(book, payer, [name for name in row if name != bill])))
        check_same(self, good_outs(book, payer), tuple(outs))
        for bill in book[0]:
            places = tuple(place for place in range(len(row) + 1) if bill not in row and good(with_row(
                book, payer, row[:place] + (bill,) + row[place:])))
            check_same(self, good_puts(book, payer, bill), places)
        rows = [other for other in rows_of(book[0]) if good(with_row(book, payer, other))]
        if not rows:
            self.assertIsNone(nearest_lists(book, payer))
            return
        fewest = min(self.steps[row, other] for other in rows)
        nearest = sorted(other for other in rows if self.steps[row, other] == fewest)
        check_same(self, nearest_lists(book, payer), (fewest, nearest))

    def setUp(self):
        pairs = itertools.product(rows_of("abc"), repeat=2)
        self.steps = {(one, other): steps_slowly(one, other, "abc") for one, other in pairs}

    def test_steps(self):
        for (one, other), steps in self.steps.items():
            check_same(self, fewest_steps(one, other), steps)

    def test_all_books_of_three_bills_and_two_payers(self):
        for book in books_of("abc", "pq"):
            for payer, row in book[1]:
                self.check_list(book, payer, row)

    def test_some_books_of_three_payers(self):
        for book in list(books_of("abc", "pqr"))[::37] + list(books_of("ab", "pqr")):
            for payer, row in book[1]:
                self.check_list(book, payer, row)

    def test_five_bills_and_eight_payers(self):
        names = tuple("abcde")
        rows = [names[at:] + names[:at] for at in range(5)] + [names, (), names[1:] + names[:1]]
        book = (names, tuple(zip("opqrstuv", rows)))
        check_same(self, nearest_lists(book, "o"), (0, [names]))
        check_same(self, nearest_lists(with_row(book, "o", ("b", "a", "c", "d", "e")), "o"), (2, [names, rows[1]]))
        self.assertIsNone(nearest_lists(with_row(book, "o", ("b", "a")), "p"))
        check_same(self, nearest_lists((names, (("p", names),)), "p"), (0, [names]))


class Wrong(unittest.TestCase):

    def test_no_payer_ahead_of_no_bill(self):
        for book, payer in ((BOOK, "dan"), (BOOK, "gas"), (NONE, "a"), (ONLY_BILLS, "a"), (ONLY_PAYERS, "b")):
            for function in (good_exchanges, good_outs, nearest_lists):
                check_raises(self, function, NoPayer(payer), book=book, payer=payer)
            for bill in ("a", "gas", "water", "ann"):
                check_raises(self, good_puts, NoPayer(payer), book=book, payer=payer, bill=bill)
        for book, payer, bill in ((BOOK, "ann", "water"), (BOOK, "ann", "ann"), (ONLY_PAYERS, "a", "a"),
                                  (BOTH, "a", "c")):
            check_raises(self, good_puts, NoBill(bill), book=book, payer=payer, bill=bill)

    def test_other_books(self):
        for one, other in (
                (BOOK, (BILLS, ())), (BOOK, (BILLS[1:], BOOK[1][:2])), (BOOK, (BILLS, BOOK[1][:2])), (NONE, ONLY_BILLS),
                (NONE, ONLY_PAYERS), (ONLY_BILLS, EMPTY_LISTS), (BOOK, (BILLS + ("tax",), BOOK[1])),
                ((("a",), (("p", ()),)), (("a",), (("q", ()),))), ((("a",), (("p", ()),)), (("b",), (("p", ()),)))):
            for first, second in ((one, other), (other, one)):
                check_raises(self, unlike_payers, OtherBook(), one=first, other=second)
                check_raises(self, parting_payment, OtherBook(), one=first, other=second)
                for thing in (None, ((), "ann", 1), (tuple((name, 1) for name in BILLS), "cid", 1)):
                    check_raises(self, is_parting_payment, OtherBook(), one=first, other=second, thing=thing)


if __name__ == "__main__":
    unittest.main()
