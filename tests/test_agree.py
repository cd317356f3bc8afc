"""Lists that agree: ordinary inputs, edges, wrong inputs, and all small cases beside a slow second way."""

import itertools
import unittest

from helping import all_alike, books_of, check_call, check_raises, check_same, coins, dues_of, ends_by_coins
from helping import rests_alike, rows_of
from ownlists.agree import agree, agreeing, is_good, is_parting, odd_bills, odd_pairs, parting, parting_of, rest_beside
from ownlists.errors import NoPayer

NONE = ((), ())
ANN, BOB, CID = ("rent", "gas", "tax"), ("gas", "tax"), ("tax", "rent")
BOOK = (("gas", "rent", "tax"), (("ann", ANN), ("bob", BOB), ("cid", CID)))
GOOD = (BOOK[0], BOOK[1][:2])
EMPTY_LISTS = (("a", "b"), (("p", ()), ("q", ()), ("r", ("b", "a"))))
ONLY_BILLS = (("a", "abcdefgh"), ())
ONLY_PAYERS = ((), (("a", ()), ("zzzzzzzz", ())))
# The NAMEs are bills and payers.
BOTH = (("a", "b"), (("a", ("a",)), ("b", ("a", "b")), ("c", ("b",))))
GREAT = 10 ** 40


class TwoLists(unittest.TestCase):

    def test_rest_beside(self):
        for one, other, bill, rest in (
                (ANN, BOB, "gas", ("tax",)), (BOB, ANN, "gas", ("tax",)), (ANN, CID, "rent", ("gas",)),
                (CID, ANN, "rent", ()), (CID, BOB, "tax", ("rent",)), (ANN, ANN, "rent", ("gas", "tax")),
                (ANN, ANN, "tax", ()), (("a",), ("a",), "a", ()), (("a", "b", "c"), ("c", "a"), "a", ("b",)),
                (("a", "d", "c", "b"), ("b", "a"), "a", ("d", "c")), (("a", "b"), ("b", "a"), "a", ())):
            check_call(self, rest_beside, rest, one=one, other=other, bill=bill)

    def test_rest_beside_of_a_bill_that_is_not_in_both(self):
        for one, other, bill in ((BOB, CID, "gas"), (CID, BOB, "gas"), (ANN, CID, "water"), ((), (), "a"),
                                 ((), ("a",), "a"), (("a",), (), "a"), (("a", "b"), ("b", "c"), "abcdefgh")):
            check_call(self, rest_beside, None, one=one, other=other, bill=bill)

    def test_agree_and_odd_bills(self):
        for one, other, odd in (
                (ANN, BOB, ()), (ANN, CID, ("rent",)), (BOB, CID, ("tax",)), ((), ANN, ()), ((), (), ()),
                (("gas", "tax"), ("tax", "gas"), ()), (("a", "b"), ("c", "d"), ()), (("a",), ("a", "b"), ("a",)),
                (("b", "a", "c"), ("b", "a", "d"), ("a", "b")), (ANN, ANN, ()), (("abcdefgh",), ("abcdefgh",), ()),
                (("c", "b", "a"), ("c", "b", "a", "d"), ("a", "b", "c")), (("a", "b", "c"), ("b", "c", "a"), ())):
            for first, second in ((one, other), (other, one)):
                check_call(self, odd_bills, odd, one=first, other=second)
                check_call(self, agree, odd == (), one=first, other=second)

    def test_all_lists_of_four_bills_as_the_document_says_it(self):
        rows = rows_of("abcd")
        for one, other in itertools.product(rows, rows[::3]):
            self.assertIs(agree(one, other), rests_alike(one, other))
            odd = []
            for bill in "abcde":
                rest = rest_beside(one, other, bill)
                if bill not in one or bill not in other:
                    self.assertIsNone(rest)
                    continue
                later, sooner = one[one.index(bill) + 1:], set(other[:other.index(bill)])
                check_same(self, rest, tuple(name for name in later if name not in sooner))
                if rest != rest_beside(other, one, bill):
                    odd.append(bill)
            check_same(self, odd_bills(one, other), tuple(odd))

    def test_agree_beside_all_dues_of_0_and_1_and_two_payments_of_1(self):
        payments = (("p", 1), ("q", 1))
        for one, other in itertools.combinations_with_replacement(rows_of("abcd"), 2):
            book = (tuple("abcd"), (("p", one), ("q", other)))
            parted = [dues for dues in dues_of("abcd", (0, 1)) if len(ends_by_coins(book, dues, payments)) > 1]
            self.assertIs(agree(one, other), not parted)
            self.assertIs(any(sum(number for bill, number in dues) <= 3 for dues in parted), bool(parted))


class ManyLists(unittest.TestCase):

    def check_book(self, book, pairs):
        check_call(self, odd_pairs, pairs, book=book)
        check_call(self, is_good, pairs == (), book=book)
        for payer, row in book[1]:
            odd = {name for pair in pairs if payer in pair for name in pair} | {payer}
            names = tuple(name for name, other in book[1] if name not in odd)
            check_call(self, agreeing, names, book=book, payer=payer)

    def test_books(self):
        for book, pairs in (
                (NONE, ()), (ONLY_BILLS, ()), (ONLY_PAYERS, ()), (EMPTY_LISTS, ()), (GOOD, ()),
                (BOOK, (("ann", "cid"), ("bob", "cid"))), (BOTH, (("a", "b"),)),
                ((("a",), (("p", ("a",)),)), ()), ((("a",), (("p", ("a",)), ("q", ("a",)))), ()),
                ((("a", "b"), (("p", ("a",)), ("q", ("a", "b")), ("r", ("a",)), ("s", ("b",)), ("t", ("a", "b")))),
                 (("p", "q"), ("p", "t"), ("q", "r"), ("r", "t")))):
            self.check_book(book, pairs)

    def test_agreeing_no_payer(self):
        for book, payer in ((BOOK, "dan"), (BOOK, "gas"), (NONE, "a"), (ONLY_BILLS, "a"), (ONLY_PAYERS, "b")):
            check_raises(self, agreeing, NoPayer(payer), book=book, payer=payer)

    def test_all_books_of_two_bills_and_three_payers(self):
        for book in books_of("ab", "pqr"):
            rows = dict(book[1])
            pairs = [pair for pair in itertools.combinations("pqr", 2) if not rests_alike(*[rows[one] for one in pair])]
            check_same(self, odd_pairs(book), tuple(pairs))
            self.assertIs(is_good(book), not pairs)
            for payer in "pqr":
                names = [one for one in "pqr" if one != payer and rests_alike(rows[one], rows[payer])]
                check_same(self, agreeing(book, payer), tuple(names))

    def check_ends(self, book, all_dues, all_payments):
        one_end = all(len(ends_by_coins(book, dues, payments)) == 1 for dues in all_dues for payments in all_payments)
        self.assertIs(is_good(book), one_end, book)

    def test_is_good_beside_ends_of_two_bills(self):
        amounts = ((1, 1, 1), (1, 2, 1), (2, 1, 3), (3, 2, 0))
        payments = [tuple(zip("pqr", some)) for some in amounts] + [(("q", 1), ("p", 1), ("q", 1), ("r", 1))]
        all_dues = list(dues_of("ab", range(3)))
        for book in books_of("ab", "pqr"):
            self.check_ends(book, all_dues, payments)

    def test_is_good_beside_ends_of_three_bills(self):
        payments = [tuple(zip("pq", some)) for some in ((1, 1), (1, 2), (2, 3))] + [(("p", 1), ("q", 1), ("p", 1))]
        all_dues = list(dues_of("abc", range(2))) + [tuple(zip("abc", (2, 1, 2)))]
        for book in books_of("abc", "pq"):
            self.check_ends(book, all_dues, payments)

    def test_is_good_beside_ends_of_three_payers(self):
        payments = [(("p", 1), ("q", 1), ("r", 1)), (("p", 1), ("q", 1)), (("p", 1), ("r", 1)), (("q", 1), ("r", 1))]
        all_dues = list(dues_of("abc", range(2)))
        rows = rows_of("abc")
        for at, first in itertools.product(range(0, 16, 3), rows):
            for second in rows[at % 4::4]:
                self.check_ends((tuple("abc"), (("p", rows[at]), ("q", first), ("r", second))), all_dues, payments)


class Parting(unittest.TestCase):

    def check_pair(self, book, pair, names=None):
        """Such a pair as the document describes: the shape, the numbers, two ENDS."""
        dues, payments = pair
        self.assertEqual([bill for bill, number in dues], list(book[0]))
        self.assertLessEqual({number for bill, number in dues}, {0, 1})
        self.assertLessEqual(sum(number for bill, number in dues), 3)
        (one, first), (other, second) = payments
        self.assertEqual((first, second), (1, 1))
        self.assertNotEqual(one, other)
        if names:
            self.assertEqual((one, other), names)
        self.assertNotEqual(coins(book, dues, payments, (0, 1))[0], coins(book, dues, payments, (1, 0))[0])
        check_call(self, is_parting, True, book=book, thing=pair)

    def test_parting(self):
        for book in (NONE, GOOD, ONLY_BILLS, ONLY_PAYERS, EMPTY_LISTS, (("a",), (("p", ("a",)), ("q", ("a",))))):
            check_call(self, parting, None, book=book)
        for book in (BOOK, BOTH, (("a", "b"), (("p", ("a",)), ("q", ("b",)), ("r", ()), ("s", ("a", "b"))))):
            made = parting(book)
            self.check_pair(book, made)
            check_call(self, parting, made, book=book)

    def test_parting_of(self):
        for book, one, other in (
                (BOOK, "ann", "bob"), (BOOK, "bob", "ann"), (BOOK, "ann", "ann"), (BOOK, "cid", "cid"),
                (BOTH, "a", "a"), (BOTH, "a", "c"), (EMPTY_LISTS, "p", "r"), (ONLY_PAYERS, "a", "zzzzzzzz")):
            check_call(self, parting_of, None, book=book, one=one, other=other)
        for book, one, other in ((BOOK, "ann", "cid"), (BOOK, "cid", "ann"), (BOOK, "cid", "bob"), (BOTH, "b", "a")):
            made = parting_of(book, one, other)
            self.check_pair(book, made, (one, other))
            check_call(self, parting_of, made, book=book, one=one, other=other)

    def test_parting_of_no_payer(self):
        for book, one, other, name in (
                (BOOK, "dan", "ann", "dan"), (BOOK, "ann", "dan", "dan"), (BOOK, "eve", "dan", "eve"),
                (BOOK, "dan", "dan", "dan"), (BOOK, "gas", "gas", "gas"), (NONE, "b", "a", "b"),
                (GOOD, "ann", "cid", "cid")):
            check_raises(self, parting_of, NoPayer(name), book=book, one=one, other=other)

    def test_all_books_of_four_bills_and_two_payers(self):
        rows = rows_of("abcd")
        for one, other in itertools.product(rows[::2], rows[1::3]):
            book = (tuple("abcd"), (("p", one), ("q", other)))
            if rests_alike(one, other):
                for made in (parting(book), parting_of(book, "p", "q"), parting_of(book, "q", "p")):
                    self.assertIsNone(made)
                continue
            for names in (("p", "q"), ("q", "p")):
                dues, payments = parting_of(book, *names)
                self.assertEqual(payments, tuple((name, 1) for name in names))
                self.assertEqual(len(ends_by_coins(book, dues, payments)), 2)
                self.assertLessEqual(sum(number for bill, number in dues), 3)
            self.assertEqual(len(ends_by_coins(book, *parting(book))), 2)

    def test_all_books_of_two_bills_and_three_payers(self):
        for book in books_of("ab", "pqr"):
            made = parting(book)
            if all_alike([row for payer, row in book[1]]):
                self.assertIsNone(made)
            else:
                self.check_pair(book, made)

    def test_is_parting(self):
        ones = tuple(zip(BOOK[0], (1, 1, 0)))
        great = (("gas", 3), ("rent", GREAT), ("tax", 0))
        for thing in ((ones, (("ann", 1), ("cid", 1))), (ones, (("cid", 1), ("ann", 1))),
                      ((("gas", 3), ("rent", 2), ("tax", 0)), (("cid", 2), ("ann", 1))),
                      (great, (("cid", 1), ("ann", GREAT))), (great, (("cid", GREAT), ("ann", 2)))):
            check_call(self, is_parting, True, book=BOOK, thing=thing)

    def test_is_not_parting(self):
        ones = tuple(zip(BOOK[0], (1, 1, 0)))
        pair = (("ann", 1), ("cid", 1))
        for thing in (
                (tuple(zip(BOOK[0], (1, 1, 1))), pair), (tuple(zip(BOOK[0], (0, 0, 0))), pair), (ones, pair[:1]),
                (ones, ()), (ones, pair + (("bob", 1),)), (ones, pair + (("bob", 0),)), (ones, (("ann", 1),) * 2),
                (ones, (("cid", 1), ("cid", 5))), (ones, (("ann", 0), ("cid", 1))), (ones, (("ann", 1), ("cid", 0))),
                (ones, (("ann", 1), ("dan", 1))), (ones, (("ann", 1), ("gas", 1))), (ones[:2], pair),
                (ones[::-1], pair), (pair, ones), (ones, pair, ()), (ones,), ones, pair, (), (ones, ("ann", "cid")),
                (ones + (("water", 1),), pair), ((), ()), ((), pair), (ones, (("ann", -1), ("cid", 1)))):
            check_call(self, is_parting, False, book=BOOK, thing=thing)
        for book in (NONE, ONLY_BILLS, ONLY_PAYERS, GOOD):
            check_call(self, is_parting, False, book=book, thing=(ones, pair))
            check_call(self, is_parting, False, book=book, thing=((), ()))
            check_call(self, is_parting, False, book=book, thing=None)

    def test_is_parting_beside_coins(self):
        for book in books_of("ab", "pq"):
            for dues in dues_of("ab", range(3)):
                for amounts in itertools.product(range(3), repeat=2):
                    for payments in (tuple(zip("pq", amounts)), tuple(zip("qp", amounts)), tuple(zip("pp", amounts))):
                        two = len(ends_by_coins(book, dues, payments)) == 2
                        self.assertIs(is_parting(book, (dues, payments)), two)


if __name__ == "__main__":
    unittest.main()
