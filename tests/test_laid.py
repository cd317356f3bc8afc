"""Money laid: ordinary inputs, edges, wrong inputs, and all small cases beside a slow second way."""

import itertools
import unittest

from helping import check_call, check_raises, check_same, coins
from ownlists.errors import NoPayer
from ownlists.laid import along, end_of, ends, first_open, given_back, laid, left_by, paid, paid_by, sum_back

NONE = ((), ())
BOOK = (("food", "gas", "rent"), (("ann", ("rent", "gas")), ("bob", ("gas", "food", "rent")), ("cid", ())))
DUES = (("food", 2), ("gas", 3), ("rent", 4))
CLOSED = (("food", 0), ("gas", 0), ("rent", 0))
# a is a bill and a payer, z is a bill in no LIST; names of one letter and of eight.
BOTH = (("a", "abcdefgh", "z"), (("a", ("abcdefgh", "a")), ("zzzzzzzz", ("a",))))
GREAT = 10 ** 40


class OnePayment(unittest.TestCase):

    def test_first_open(self):
        for book, dues, payer, bill in (
                (BOOK, DUES, "ann", "rent"), (BOOK, DUES, "bob", "gas"), (BOOK, DUES, "cid", None),
                (BOOK, (("food", 5), ("gas", 1), ("rent", 0)), "ann", "gas"), (BOOK, CLOSED, "bob", None),
                (BOOK, (("food", 5), ("gas", 0), ("rent", 0)), "ann", None),
                (BOOK, (("food", 5), ("gas", 0), ("rent", 9)), "bob", "food"),
                (BOTH, (("a", 1), ("abcdefgh", GREAT), ("z", 1)), "a", "abcdefgh"),
                (BOTH, (("a", 1), ("abcdefgh", 0), ("z", 1)), "a", "a"),
                (BOTH, (("a", 0), ("abcdefgh", 1), ("z", 1)), "zzzzzzzz", None)):
            check_call(self, first_open, bill, book=book, dues=dues, payer=payer)

    def test_paid_and_laid(self):
        for payer, amount, shares, opens, back in (
                ("ann", 0, (), (2, 3, 4), 0), ("ann", 1, (("rent", 1),), (2, 3, 3), 0),
                ("ann", 4, (("rent", 4),), (2, 3, 0), 0), ("ann", 5, (("rent", 4), ("gas", 1)), (2, 2, 0), 0),
                ("ann", 7, (("rent", 4), ("gas", 3)), (2, 0, 0), 0),
                ("ann", 8, (("rent", 4), ("gas", 3)), (2, 0, 0), 1),
                ("bob", 6, (("gas", 3), ("food", 2), ("rent", 1)), (0, 0, 3), 0),
                ("bob", GREAT, (("gas", 3), ("food", 2), ("rent", 4)), (0, 0, 0), GREAT - 9),
                ("cid", 0, (), (2, 3, 4), 0), ("cid", 3, (), (2, 3, 4), 3)):
            behind = tuple(zip(BOOK[0], opens))
            check_call(self, paid, shares, book=BOOK, dues=DUES, payer=payer, amount=amount)
            check_call(self, laid, (behind, back), book=BOOK, dues=DUES, payer=payer, amount=amount)

    def test_left_by(self):
        for row, amount, opens in (((), 5, (2, 3, 4)), (("rent", "gas"), 0, (2, 3, 4)), (("rent", "gas"), 5, (2, 2, 0)),
                                   (("gas", "food", "rent"), 6, (0, 0, 3)), (("food",), GREAT, (0, 3, 4))):
            check_call(self, left_by, tuple(zip(BOOK[0], opens)), row=row, dues=DUES, amount=amount)

    def test_closed_bills_are_passed_over(self):
        dues = (("food", 0), ("gas", 3), ("rent", 4))
        check_call(self, paid, (("gas", 3), ("rent", 1)), book=BOOK, dues=dues, payer="bob", amount=4)
        check_call(self, paid, (), book=BOOK, dues=CLOSED, payer="bob", amount=4)
        check_call(self, laid, (CLOSED, 4), book=BOOK, dues=CLOSED, payer="bob", amount=4)

    def test_great_numbers(self):
        dues = (("a", GREAT), ("abcdefgh", GREAT - 1), ("z", GREAT))
        shares = (("abcdefgh", GREAT - 1), ("a", 1))
        check_call(self, paid, shares, book=BOTH, dues=dues, payer="a", amount=GREAT)
        opens = (("a", GREAT - 1), ("abcdefgh", 0), ("z", GREAT))
        check_call(self, laid, (opens, 0), book=BOTH, dues=dues, payer="a", amount=GREAT)
        opens = (("a", 0), ("abcdefgh", GREAT - 1), ("z", GREAT))
        check_call(self, laid, (opens, GREAT), book=BOTH, dues=dues, payer="zzzzzzzz", amount=2 * GREAT)

    def test_no_payer(self):
        for book, dues, payer in ((NONE, (), "a"), (BOOK, DUES, "gas"), (BOOK, DUES, "zed"), (BOOK, CLOSED, "dan"),
                                  ((("a",), ()), (("a", 1),), "a")):
            check_raises(self, first_open, NoPayer(payer), book=book, dues=dues, payer=payer)
            for amount in (0, 3):
                check_raises(self, paid, NoPayer(payer), book=book, dues=dues, payer=payer, amount=amount)
                check_raises(self, laid, NoPayer(payer), book=book, dues=dues, payer=payer, amount=amount)


class ManyPayments(unittest.TestCase):

    def check_order(self, book, dues, payments, order, moments, triples, back):
        asked = {"book": book, "dues": dues, "payments": payments, "order": order}
        check_call(self, along, moments, **asked)
        check_call(self, end_of, ([dues] + moments)[-1], **asked)
        check_call(self, paid_by, triples, **asked)
        check_call(self, given_back, back, **asked)
        check_call(self, sum_back, sum(back), **asked)

    def test_no_payments(self):
        for book, dues in ((BOOK, DUES), (NONE, ()), (BOOK, CLOSED)):
            self.check_order(book, dues, (), (), [], (), ())
            check_call(self, ends, [dues], book=book, dues=dues, payments=())

    def test_the_order_decides(self):
        payments = (("bob", 3), ("cid", 2), ("ann", 6), ("bob", 3))
        one = [(2, 0, 4), (2, 0, 4), (2, 0, 0), (0, 0, 0)]
        other = [(0, 0, 4), (0, 0, 0), (0, 0, 0), (0, 0, 0)]
        self.check_order(BOOK, DUES, payments, (0, 1, 2, 3), [tuple(zip(BOOK[0], row)) for row in one],
                         (("ann", "rent", 4), ("bob", "food", 2), ("bob", "gas", 3)), (0, 2, 2, 1))
        payments = (("bob", 3), ("cid", 2), ("ann", 6), ("bob", 5))
        self.check_order(BOOK, DUES, payments, (3, 2, 0, 1), [tuple(zip(BOOK[0], row)) for row in other],
                         (("ann", "rent", 4), ("bob", "food", 2), ("bob", "gas", 3)), (3, 2, 2, 0))

    def test_amounts_of_none_and_great_ones(self):
        payments = (("a", 0), ("zzzzzzzz", GREAT), ("a", GREAT))
        dues = (("a", GREAT - 1), ("abcdefgh", 1), ("z", 7))
        moments = [(("a", 0), ("abcdefgh", 0), ("z", 7))] + [(("a", 0), ("abcdefgh", 0), ("z", 7))] * 2
        self.check_order(BOTH, dues, payments, (2, 0, 1), moments,
                         (("a", "a", GREAT - 1), ("a", "abcdefgh", 1)), (0, GREAT, 0))
        moments = [(("a", 0), ("abcdefgh", 1), ("z", 7))] * 2 + [(("a", 0), ("abcdefgh", 0), ("z", 7))]
        self.check_order(BOTH, dues, payments, (1, 0, 2), moments,
                         (("a", "abcdefgh", 1), ("zzzzzzzz", "a", GREAT - 1)), (0, 1, GREAT - 1))

    def test_ends(self):
        payments = (("ann", 5), ("bob", 4))
        found = [(("food", 0), ("gas", 0), ("rent", 0)), (("food", 1), ("gas", 0), ("rent", 0))]
        check_call(self, ends, found, book=BOOK, dues=DUES, payments=payments)
        check_call(self, ends, found[:1], book=BOOK, dues=DUES, payments=(("bob", 9), ("bob", 9)))
        check_call(self, ends, [DUES], book=BOOK, dues=DUES, payments=(("cid", 5),) * 6)
        check_call(self, ends, [CLOSED], book=BOOK, dues=CLOSED, payments=payments)

    def test_ends_of_six_payments(self):
        names = ("a", "b", "c", "d", "e", "f")
        book = (names, tuple((name, names[at:] + names[:at]) for at, name in enumerate(names)))
        odd = (names, tuple((name, names[at::-1] + names[at + 1:]) for at, name in enumerate(names)))
        payments = tuple((name, at + 1) for at, name in enumerate(names))
        dues = tuple((name, 3) for name in names)
        for one in (book, odd):
            orders = itertools.permutations(range(6))
            found = sorted({coins(one, dues, payments, order)[0] for order in orders})
            check_call(self, ends, found, book=one, dues=dues, payments=payments)

    def test_ends_ascend_by_python_comparison_of_numbers(self):
        book = (("a", "b"), (("p", ("a", "b")), ("q", ("a",))))
        found = [(("a", 0), ("b", 9)), (("a", 0), ("b", 10))]
        check_call(self, ends, found, book=book, dues=(("a", 2), ("b", 10)), payments=(("p", 2), ("q", 1)))


class AllSmallCases(unittest.TestCase):

    def check_orders(self, book, dues, payments):
        found = set()
        for order in itertools.permutations(range(len(payments))):
            end, moments, triples, back = coins(book, dues, payments, order)
            found.add(end)
            asked = (book, dues, payments, order)
            check_same(self, end_of(*asked), end)
            check_same(self, along(*asked), moments)
            check_same(self, paid_by(*asked), triples)
            check_same(self, given_back(*asked), back)
            check_same(self, sum_back(*asked), sum(back))
            self.assertEqual(sum(number for bill, number in dues) - sum(number for bill, number in end),
                             sum(amount for payer, amount in payments) - sum(back))
        check_same(self, ends(book, dues, payments), sorted(found))

    def test_three_payments_on_two_bills(self):
        names = ("a", "b")
        rows = [row for many in range(3) for row in itertools.permutations(names, many)]
        for one, other in itertools.product(rows, rows):
            book = (names, (("p", one), ("q", other)))
            for first, second in itertools.product(range(3), repeat=2):
                dues = (("a", first), ("b", second))
                for amounts in itertools.product((0, 1, 3), repeat=3):
                    self.check_orders(book, dues, tuple(zip(("p", "q", "q"), amounts)))

    def test_two_payments_on_three_bills(self):
        names = ("a", "b", "c")
        rows = [row for many in range(4) for row in itertools.permutations(names, many)]
        dues = (("a", 1), ("b", 2), ("c", 1))
        for one, other in itertools.product(rows, rows):
            book = (names, (("a", one), ("q", other)))
            for amounts in itertools.product((1, 2, 3, 5), repeat=2):
                self.check_orders(book, dues, tuple(zip(("q", "a"), amounts)))

    def test_one_payment(self):
        names = ("a", "b", "c")
        rows = [row for many in range(4) for row in itertools.permutations(names, many)]
        for row, amount in itertools.product(rows, range(8)):
            book = (names, (("p", row),))
            for numbers in itertools.product(range(3), repeat=3):
                dues = tuple(zip(names, numbers))
                end, moments, triples, back = coins(book, dues, (("p", amount),), (0,))
                check_same(self, laid(book, dues, "p", amount), (end, back[0]))
                shares = paid(book, dues, "p", amount)
                check_same(self, tuple(sorted(("p", *share) for share in shares)), triples)
                self.assertEqual([bill for bill in row if bill in dict(shares)], [bill for bill, number in shares])
                opens = [bill for bill in row if dict(dues)[bill] > 0]
                self.assertEqual(first_open(book, dues, "p"), opens[0] if opens else None)


if __name__ == "__main__":
    unittest.main()
