"""What hangs on the order: ordinary inputs, edges, wrong inputs, and small cases beside all ORDERs, coin by coin."""

import itertools
import unittest

from helping import books_of, check_call, check_raises, check_same, coins, dues_of
from ownlists.errors import NoBill, NoNumber
from ownlists.orders import back_range, ends_with, has_one_end, how_many_orders_to, is_parting_orders, least_order_to
from ownlists.orders import maybe_whole, open_range, orders_by_ends, paid_range, parting_orders, sure_open
from ownlists.orders import surely_whole

NONE = ((), ())
BOOK = (("gas", "rent", "tax"), (("ann", ("rent", "gas")), ("bob", ("rent",)), ("cid", ("tax", "gas"))))
DUES, PAYMENTS = (("gas", 1), ("rent", 1), ("tax", 1)), (("ann", 1), ("bob", 1))
PAID, UNPAID = (("gas", 0), ("rent", 0), ("tax", 1)), (("gas", 1), ("rent", 0), ("tax", 1))
MORE = PAYMENTS + (("cid", 2), ("ann", 3))
ONLY_BILLS = (("a", "abcdefgh"), ())
ONLY_PAYERS = ((), (("a", ()), ("zzzzzzzz", ())))
EMPTY_LISTS = (("a", "b"), (("p", ()), ("q", ())))
# The NAMEs are bills and payers.
BOTH = (("a", "b"), (("a", ("b", "a")), ("b", ("b",))))
# Six bills and eight payers, many of whose LISTS do not agree.
NAMES = tuple("abcdef")
GRAND = (NAMES, tuple(zip("opqrstuv", (
    NAMES, NAMES[::-1], ("b", "d"), ("c", "a", "e"), (), ("d", "a"), ("a", "c"), ("f", "b", "a", "c")))))
GREAT = 10 ** 40


def all_orders(payments):
    """All ORDERs of these PAYMENTS, ascending."""
    return list(itertools.permutations(range(len(payments))))


class Told:
    """All that the ORDERs lead to, coin by coin."""

    def __init__(self, book, dues, payments):
        self.orders = all_orders(payments)
        self.ends, self.backs, self.shares = {}, [], []
        for order in self.orders:
            end, moments, triples, back = coins(book, dues, payments, order)
            self.ends.setdefault(end, []).append(order)
            self.backs.append(sum(back))
            self.shares.append(self.paid(book, dues, payments, order))

    def paid(self, book, dues, payments, order):
        """The dict of how much the PAYMENT at each place pays on each bill."""
        shares, before = {}, dict(dues)
        for count, place in enumerate(order):
            after = dict(coins(book, dues, payments, order[:count + 1])[0])
            for bill in before:
                shares[place, bill] = before[bill] - after[bill]
            before = after
        return shares

    def numbers(self, bill):
        return [dict(end)[bill] for end in self.ends]


class Ends(unittest.TestCase):

    def test_orders_by_ends(self):
        for payments, pairs in (
                (PAYMENTS, ((PAID, 1), (UNPAID, 1))), (PAYMENTS[1:], ((UNPAID, 1),)), (PAYMENTS[:1], ((UNPAID, 1),)),
                ((), ((DUES, 1),)), (MORE, (((("gas", 0), ("rent", 0), ("tax", 0)), 24),)),
                ((("bob", 0),) * 6, ((DUES, 720),)), (PAYMENTS[:1] * 2, ((PAID, 2),)),
                (PAYMENTS + PAYMENTS[1:], ((PAID, 4), (UNPAID, 2)))):
            check_call(self, orders_by_ends, pairs, book=BOOK, dues=DUES, payments=payments)
            check_call(self, has_one_end, len(pairs) == 1, book=BOOK, dues=DUES, payments=payments)

    def test_orders_to(self):
        for payments, left, many, least in (
                (PAYMENTS, DUES, 0, None), (PAYMENTS, PAID, 1, (1, 0)), (PAYMENTS, UNPAID, 1, (0, 1)),
                ((), DUES, 1, ()), ((), PAID, 0, None), (PAYMENTS[:1], UNPAID, 1, (0,)), (PAYMENTS[:1], PAID, 0, None),
                (MORE, (("gas", 0), ("rent", 0), ("tax", 0)), 24, (0, 1, 2, 3)), (MORE, UNPAID, 0, None),
                ((("ann", 1), ("bob", 1), ("bob", 1)), PAID, 4, (1, 0, 2)),
                (PAYMENTS, (("gas", 0), ("rent", 5), ("tax", 0)), 0, None),
                ((("bob", 0),) * 6, DUES, 720, (0, 1, 2, 3, 4, 5))):
            check_call(self, how_many_orders_to, many, book=BOOK, dues=DUES, payments=payments, left=left)
            check_call(self, least_order_to, least, book=BOOK, dues=DUES, payments=payments, left=left)

    def test_parting_orders(self):
        for payments in (PAYMENTS, PAYMENTS[::-1], PAYMENTS + (("cid", 0),)):
            pair = parting_orders(BOOK, DUES, payments)
            check_call(self, parting_orders, pair, book=BOOK, dues=DUES, payments=payments)
            check_call(self, is_parting_orders, True, book=BOOK, dues=DUES, payments=payments, thing=pair)
            check_call(self, is_parting_orders, True, book=BOOK, dues=DUES, payments=payments, thing=pair[::-1])
        for payments in ((), PAYMENTS[1:], PAYMENTS[:1] * 2, MORE, (("bob", 1),) * 6):
            check_call(self, parting_orders, None, book=BOOK, dues=DUES, payments=payments)

    def test_is_parting_orders(self):
        for thing, parting in ((((0, 1), (1, 0)), True), (((1, 0), (0, 1)), True), (((0, 1), (0, 1)), False),
                               (((1, 0), (1, 0)), False), (((0, 1), (1, 0), (0, 1)), False), (((0, 1),), False),
                               (((0, 1), (1,)), False), (((0, 0), (1, 0)), False), (([0, 1], (1, 0)), False),
                               ([(0, 1), (1, 0)], False), (((False, True), (True, False)), False), ((), False),
                               (((0, 1), (True, 0)), False), ((0, 1), False), (None, False), (((), ()), False)):
            check_call(self, is_parting_orders, parting, book=BOOK, dues=DUES, payments=PAYMENTS, thing=thing)
        check_call(self, is_parting_orders, False, book=BOOK, dues=DUES, payments=(), thing=((), ()))
        pair = ((0, 1, 2, 3), (3, 2, 1, 0))
        check_call(self, is_parting_orders, False, book=BOOK, dues=DUES, payments=MORE, thing=pair)

    def test_ends_with(self):
        for pairs, found in (((), [PAID, UNPAID]), (((0, 1),), [UNPAID]), (((1, 0),), [PAID]), (((0, 1), (1, 0)), [])):
            check_call(self, ends_with, found, book=BOOK, dues=DUES, payments=PAYMENTS, pairs=pairs)
        check_call(self, ends_with, [DUES], book=BOOK, dues=DUES, payments=(), pairs=())
        check_call(self, ends_with, [UNPAID], book=BOOK, dues=DUES, payments=PAYMENTS[1:], pairs=())
        many = PAYMENTS + (("cid", 0),) * 4
        every = tuple((one, other) for one in range(6) for other in range(6) if one < other)
        check_call(self, ends_with, [UNPAID], book=BOOK, dues=DUES, payments=many, pairs=every)
        check_call(self, ends_with, [], book=BOOK, dues=DUES, payments=many, pairs=every + ((5, 0),))
        check_call(self, ends_with, [], book=BOOK, dues=DUES, payments=many, pairs=((2, 3), (3, 4), (4, 2)))
        check_call(self, ends_with, [PAID], book=BOOK, dues=DUES, payments=many, pairs=((1, 5), (5, 0)))
        check_call(self, ends_with, [PAID, UNPAID], book=BOOK, dues=DUES, payments=many, pairs=((0, 5), (1, 5)))


class Ranges(unittest.TestCase):

    def check_ranges(self, book, dues, payments, ranges, back):
        """ranges: the least and the greatest at each bill."""
        asked = {"book": book, "dues": dues, "payments": payments}
        bills = list(zip(book[0], ranges))
        for bill, pair in bills:
            check_call(self, open_range, pair, **asked, bill=bill)
        check_call(self, sure_open, tuple((bill, least) for bill, (least, most) in bills if least == most), **asked)
        check_call(self, surely_whole, tuple(bill for bill, (least, most) in bills if most == 0), **asked)
        check_call(self, maybe_whole, tuple(bill for bill, (least, most) in bills if least == 0), **asked)
        check_call(self, back_range, back, **asked)

    def test_ranges(self):
        self.check_ranges(BOOK, DUES, PAYMENTS, ((0, 1), (0, 0), (1, 1)), (0, 1))
        self.check_ranges(BOOK, DUES, MORE, ((0, 0), (0, 0), (0, 0)), (4, 4))
        self.check_ranges(BOOK, DUES, PAYMENTS[1:], ((1, 1), (0, 0), (1, 1)), (0, 0))
        self.check_ranges(BOOK, DUES, (), ((1, 1), (1, 1), (1, 1)), (0, 0))
        self.check_ranges(BOOK, (("gas", 0), ("rent", 0), ("tax", 2)), PAYMENTS, ((0, 0), (0, 0), (2, 2)), (2, 2))
        self.check_ranges(BOOK, DUES, (("ann", 0), ("bob", 0)), ((1, 1), (1, 1), (1, 1)), (0, 0))

    def test_edges(self):
        self.check_ranges(NONE, (), (), (), (0, 0))
        self.check_ranges(ONLY_PAYERS, (), (("a", 3), ("zzzzzzzz", GREAT)), (), (GREAT + 3, GREAT + 3))
        self.check_ranges(ONLY_BILLS, (("a", 0), ("abcdefgh", 7)), (), ((0, 0), (7, 7)), (0, 0))
        self.check_ranges(EMPTY_LISTS, (("a", 0), ("b", 2)), (("p", 1), ("q", 5)), ((0, 0), (2, 2)), (6, 6))
        self.check_ranges(BOTH, (("a", 2), ("b", 2)), (("a", 2), ("b", 3)), ((0, 2), (0, 0)), (1, 3))

    def test_great_numbers(self):
        dues, payments = (("gas", GREAT), ("rent", GREAT), ("tax", 0)), (("ann", GREAT), ("bob", GREAT - 1), ("cid", 1))
        self.check_ranges(BOOK, dues, payments, ((0, GREAT - 1), (0, 0), (0, 0)), (0, GREAT - 1))
        check_call(self, paid_range, (1, GREAT), book=BOOK, dues=dues, payments=payments, place=0, bill="rent")
        check_call(self, paid_range, (0, GREAT - 1), book=BOOK, dues=dues, payments=payments, place=0, bill="gas")
        check_call(self, paid_range, (0, GREAT - 1), book=BOOK, dues=dues, payments=payments, place=1, bill="rent")
        check_call(self, paid_range, (1, 1), book=BOOK, dues=dues, payments=payments, place=2, bill="gas")

    def test_paid_range(self):
        for payments, place, bill, pair in (
                (PAYMENTS, 0, "gas", (0, 1)), (PAYMENTS, 0, "rent", (0, 1)), (PAYMENTS, 0, "tax", (0, 0)),
                (PAYMENTS, 1, "rent", (0, 1)), (PAYMENTS, 1, "gas", (0, 0)), (PAYMENTS, 1, "tax", (0, 0)),
                (MORE, 2, "tax", (1, 1)), (MORE, 2, "gas", (0, 1)), (MORE, 3, "gas", (0, 1)), (MORE, 3, "rent", (0, 1)),
                (PAYMENTS[:1], 0, "rent", (1, 1)), ((("bob", 0),) * 6, 5, "rent", (0, 0))):
            check_call(self, paid_range, pair, book=BOOK, dues=DUES, payments=payments, place=place, bill=bill)
        # Ahead of bob nobody need be, and behind him whoever comes changes nothing.
        dues, payments = (("gas", 1), ("rent", 3), ("tax", 1)), (("bob", 2), ("ann", 2), ("ann", 2))
        for place, bill, pair in ((0, "rent", (0, 2)), (1, "rent", (0, 2)), (1, "gas", (0, 1)), (2, "gas", (0, 1))):
            check_call(self, paid_range, pair, book=BOOK, dues=dues, payments=payments, place=place, bill=bill)


class Slowly(unittest.TestCase):

    def check_orders(self, book, dues, payments):
        told = Told(book, dues, payments)
        asked = (book, dues, payments)
        check_same(self, orders_by_ends(*asked), tuple((end, len(told.ends[end])) for end in sorted(told.ends)))
        check_same(self, has_one_end(*asked), len(told.ends) == 1)
        for left in list(told.ends) + [dues]:
            orders = told.ends.get(left, [])
            check_same(self, how_many_orders_to(*asked, left), len(orders))
            check_same(self, least_order_to(*asked, left), min(orders, default=None))
        pair = parting_orders(*asked)
        self.assertIs(pair is None, len(told.ends) == 1)
        if pair is not None:
            self.assertIs(is_parting_orders(*asked, pair), True)
        check_same(self, back_range(*asked), (min(told.backs), max(told.backs)))
        for bill in book[0]:
            check_same(self, open_range(*asked, bill), (min(told.numbers(bill)), max(told.numbers(bill))))
            for place in range(len(payments)):
                shares = [paid[place, bill] for paid in told.shares]
                check_same(self, paid_range(*asked, place, bill), (min(shares), max(shares)))
        sure = tuple((bill, told.numbers(bill)[0]) for bill in book[0] if len(set(told.numbers(bill))) == 1)
        check_same(self, sure_open(*asked), sure)
        check_same(self, surely_whole(*asked), tuple(bill for bill in book[0] if not any(told.numbers(bill))))
        check_same(self, maybe_whole(*asked), tuple(bill for bill in book[0] if not all(told.numbers(bill))))
        self.check_sums(dues, payments, told)
        self.check_pairs(asked, told)

    def check_sums(self, dues, payments, told):
        """What is open less and what is given back come together to the sum of all amounts."""
        for end, orders in told.ends.items():
            for order in orders:
                less = sum(before - after for (bill, before), (name, after) in zip(dues, end))
                self.assertEqual(less + told.backs[told.orders.index(order)], sum(amount for payer, amount in payments))

    def check_pairs(self, asked, told):
        places = range(len(asked[2]))
        each = [(one, other) for one in places for other in places if one != other]
        for pairs in [()] + [(pair,) for pair in each] + list(itertools.combinations(each, 2))[::3]:
            found = sorted(end for end, orders in told.ends.items() if any(
                all(order.index(one) < order.index(other) for one, other in pairs) for order in orders))
            check_same(self, ends_with(*asked, pairs), found)

    def test_all_books_of_two_bills(self):
        for book in books_of("ab", "pq"):
            for dues in dues_of("ab", (0, 1, 3)):
                for payments in ((), (("p", 1),), (("p", 1), ("q", 2)), (("q", 2), ("p", 1), ("q", 1))):
                    self.check_orders(book, dues, payments)

    def test_some_books_of_three_bills(self):
        for book in list(books_of("abc", "pqr"))[::61]:
            for due in ((1, 1, 1), (2, 0, 1)):
                payments = (("p", 1), ("q", 2), ("r", 1))
                self.check_orders(book, tuple(zip("abc", due)), payments)
                self.check_orders(book, tuple(zip("abc", due)), payments + (("q", 1),))

    def test_six_payments(self):
        dues = tuple(zip(NAMES, (1, 2, 1, 0, 2, 1)))
        for amounts in ((1, 2, 1, 0, 2, 1), (1, 1, 1, 1, 1, 1)):
            self.check_orders(GRAND, dues, tuple(zip("opqrtv", amounts)))
        self.check_orders(GRAND, dues, (("o", 1), ("o", 2), ("v", 2), ("v", 1), ("r", 1), ("r", 3)))


class Wrong(unittest.TestCase):

    def test_no_bill(self):
        for book, bill in ((BOOK, "water"), (BOOK, "ann"), (BOOK, ""), (NONE, "a"), (ONLY_PAYERS, "a"),
                           (ONLY_BILLS, "b")):
            dues = tuple((name, 1) for name in book[0])
            check_raises(self, open_range, NoBill(bill), book=book, dues=dues, payments=(), bill=bill)
        check_raises(self, open_range, NoBill("gass"), book=BOOK, dues=DUES, payments=PAYMENTS, bill="gass")

    def test_no_number_ahead_of_no_bill(self):
        for payments, place in ((PAYMENTS, 2), (PAYMENTS, -1), (PAYMENTS, -2), (PAYMENTS, GREAT), (PAYMENTS, -GREAT),
                                ((), 0), ((), -1), (MORE, 4), ((("bob", 1),) * 6, 6)):
            for bill in ("gas", "water", "ann", ""):
                check_raises(self, paid_range, NoNumber(place), book=BOOK, dues=DUES, payments=payments, place=place,
                             bill=bill)
        for bill in ("water", "ann", "", "rents"):
            check_raises(self, paid_range, NoBill(bill), book=BOOK, dues=DUES, payments=PAYMENTS, place=1, bill=bill)
        check_raises(self, paid_range, NoBill("a"), book=ONLY_PAYERS, dues=(), payments=(("a", 1),), place=0, bill="a")


if __name__ == "__main__":
    unittest.main()
