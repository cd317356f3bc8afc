"""What can stand open: ordinary inputs, edges, wrong inputs, and small cases beside all that payments lead to."""

import itertools
import unittest

from helping import books_of, check_call, check_raises, check_same, dues_of, sets_of
from ownlists.could import always_ahead, can_be_whole, can_stand, how_many_opens, how_many_whole, is_payments_for
from ownlists.could import least_ahead, least_payers, payable, payments_for, rounds, whole_sets
from ownlists.errors import NoBill
from ownlists.laid import is_payments

NONE = ((), ())
HOME = (("a", "b", "c", "d"), (("ann", ("a", "b")), ("bob", ("c", "b", "d"))))
DUE = (("a", 2), ("b", 3), ("c", 0), ("d", 1))
LATE = (("a", 2), ("b", 3), ("c", 1), ("d", 1))
ONLY_BILLS = (("a", "abcdefgh"), ())
ONLY_PAYERS = ((), (("a", ()), ("zzzzzzzz", ())))
EMPTY_LISTS = (("a", "b"), (("p", ()), ("q", ())))
# The NAMEs are bills and payers; z is a bill in no LIST.
BOTH = (("a", "b", "z"), (("a", ("b", "a")), ("b", ("a",))))
# Each bill is paid behind the one ahead of it alone.
ROW = (tuple("abcdef"), (("p", tuple("fedcba")),))
# Six bills and eight payers: c is paid behind a and b by some, behind d or e by others.
GRAND = (tuple("abcdef"), (
    ("o", ("a", "b", "c")), ("p", ("d", "c")), ("q", ("b", "a", "c")), ("r", ("e", "f")), ("s", ("d", "f", "c")),
    ("t", ("e", "c")), ("u", ("a", "e")), ("v", ())))
GREAT = 10 ** 40


def opens_of(names, *numbers):
    """What is due at each of these NAMEs."""
    return tuple(zip(names, numbers))


def zeros(names):
    """Each of these NAMEs with 0."""
    return tuple((name, 0) for name in names)


def steps_of(book, opens, some, amounts):
    """What is due behind one PAYMENT of one of these payers, of one of these amounts."""
    for payer, row in book[1]:
        if payer in some:
            for amount in amounts:
                due, rest = dict(opens), amount
                for bill in row:
                    share = min(rest, due[bill])
                    due[bill], rest = due[bill] - share, rest - share
                yield tuple(sorted(due.items()))


def all_opens(book, dues, some, amounts):
    """All that PAYMENTS of these payers, of these amounts, one behind another, lead to."""
    found, news = {dues}, [dues]
    while news:
        news = [opens for old in news for opens in set(steps_of(book, old, some, amounts)) if opens not in found]
        found.update(news)
    return found


def below(dues):
    """All OPENS with no number above that of these dues."""
    names = [name for name, number in dues]
    return [tuple(zip(names, numbers)) for numbers in itertools.product(*[range(due + 1) for name, due in dues])]


def with_closed(dues, some):
    """The dues, nothing being due at these bills."""
    return tuple((bill, 0 if bill in some else number) for bill, number in dues)


def at_once(book, dues):
    """The bills that can be paid at once, as the document says it."""
    due = dict(dues)
    return tuple(bill for bill in book[0] if due[bill] > 0 and any(
        bill in row and all(due[name] == 0 for name in row[:row.index(bill)]) for payer, row in book[1]))


class Stand(unittest.TestCase):

    def test_can_stand(self):
        for numbers, can in (((1, 3, 0, 1), True), ((2, 2, 0, 0), False), ((2, 0, 0, 1), True), ((0, 0, 0, 0), True),
                             ((1, 2, 0, 1), True), ((3, 3, 0, 1), False), ((2, 3, 0, 1), True), ((2, 3, 1, 1), False),
                             ((0, 0, 0, 1), True), ((1, 0, 0, 0), True), ((1, 1, 0, 0), False), ((2, 2, 0, 1), True)):
            check_call(self, can_stand, can, book=HOME, dues=DUE, thing=opens_of("abcd", *numbers))
        for numbers, can in (((2, 2, 1, 1), False), ((2, 2, 0, 1), True), ((0, 2, 1, 1), True), ((0, 0, 1, 0), False),
                             ((0, 0, 1, 1), True), ((1, 0, 0, 0), True), ((1, 3, 0, 1), True), ((1, 2, 1, 1), False)):
            check_call(self, can_stand, can, book=HOME, dues=LATE, thing=opens_of("abcd", *numbers))

    def test_edges(self):
        check_call(self, can_stand, True, book=NONE, dues=(), thing=())
        check_call(self, can_stand, True, book=ONLY_PAYERS, dues=(), thing=())
        check_call(self, payments_for, (), book=NONE, dues=(), left=())
        check_call(self, payments_for, (), book=ONLY_PAYERS, dues=(), left=())
        check_call(self, least_payers, (), book=ONLY_PAYERS, dues=(), left=())
        for book in (ONLY_BILLS, EMPTY_LISTS):
            dues, less = opens_of(book[0], 2, 0), opens_of(book[0], 1, 0)
            check_call(self, can_stand, True, book=book, dues=dues, thing=dues)
            check_call(self, can_stand, False, book=book, dues=dues, thing=less)
            check_call(self, can_stand, False, book=book, dues=dues, thing=zeros(book[0]))
            check_call(self, payments_for, (), book=book, dues=dues, left=dues)
            check_call(self, payments_for, None, book=book, dues=dues, left=less)
            check_call(self, least_payers, (), book=book, dues=dues, left=dues)
            check_call(self, least_payers, None, book=book, dues=dues, left=less)
        # z is in no LIST, and nobody can pay it; nothing due at it from the beginning is no matter.
        check_call(self, can_stand, True, book=BOTH, dues=opens_of("abz", 1, 1, 5), thing=opens_of("abz", 0, 0, 5))
        check_call(self, can_stand, False, book=BOTH, dues=opens_of("abz", 1, 1, 5), thing=opens_of("abz", 0, 0, 4))
        check_call(self, can_stand, True, book=BOTH, dues=opens_of("abz", 1, 1, 0), thing=zeros("abz"))

    def test_great_numbers(self):
        dues = opens_of("abcd", GREAT, GREAT, GREAT, GREAT)
        left = opens_of("abcd", 0, 0, 0, GREAT - 1)
        payments = payments_for(HOME, dues, left)
        self.assertIs(is_payments_for(HOME, dues, left, payments), True)
        check_call(self, can_stand, True, book=HOME, dues=dues, thing=left)
        check_call(self, can_stand, False, book=HOME, dues=dues, thing=opens_of("abcd", 0, 1, 0, GREAT - 1))
        check_call(self, can_stand, False, book=HOME, dues=dues, thing=opens_of("abcd", 0, 0, 0, GREAT + 1))

    def test_is_payments_for(self):
        left = opens_of("abcd", 1, 3, 0, 1)
        for thing, good in (((("ann", 1),), True), ((("bob", 1),), False), ((), False), ((("ann", 2),), False),
                            ((("ann", 0), ("ann", 1), ("bob", 0)), True), ((("ann", 1), ("bob", 1)), False),
                            ((("cid", 1),), False), ([("ann", 1)], False), ((["ann", 1],), False)):
            check_call(self, is_payments_for, good, book=HOME, dues=DUE, left=left, thing=thing)
        whole, many = zeros("abcd"), tuple(("ann", 1) for turn in range(900))
        check_call(self, is_payments_for, True, book=HOME, dues=DUE, left=whole, thing=(("ann", GREAT), ("bob", GREAT)))
        check_call(self, is_payments_for, False, book=HOME, dues=LATE, left=opens_of("abcd", 0, 0, 1, 0),
                   thing=(("ann", GREAT), ("bob", 0)))
        check_call(self, is_payments_for, True, book=HOME, dues=LATE, left=opens_of("abcd", 0, 0, 1, 1), thing=many)
        check_call(self, is_payments_for, True, book=HOME, dues=DUE, left=DUE, thing=())
        check_call(self, is_payments_for, True, book=NONE, dues=(), left=(), thing=())
        check_call(self, is_payments_for, True, book=ONLY_PAYERS, dues=(), left=(), thing=(("a", GREAT),))

    def test_payments_for(self):
        check_call(self, payments_for, None, book=HOME, dues=DUE, left=opens_of("abcd", 2, 2, 0, 0))
        check_call(self, payments_for, (), book=HOME, dues=DUE, left=DUE)
        for dues in (DUE, LATE):
            for left in below(dues):
                payments = payments_for(HOME, dues, left)
                self.assertIs(payments is not None, can_stand(HOME, dues, left))
                if payments is not None:
                    # The choice is the same by lists for tuples, and by names.
                    check_call(self, payments_for, payments, book=HOME, dues=dues, left=left)
                    check_call(self, is_payments_for, True, book=HOME, dues=dues, left=left, thing=payments)

    def test_least_payers(self):
        for numbers, some in (((2, 0, 0, 1), ("bob",)), ((0, 0, 0, 1), ("ann",)), ((1, 2, 0, 1), ("ann", "bob")),
                              ((2, 3, 0, 1), ()), ((2, 2, 0, 0), None), ((0, 0, 0, 0), ("ann", "bob")),
                              ((1, 3, 0, 1), ("ann",)), ((2, 0, 0, 0), ("bob",))):
            check_call(self, least_payers, some, book=HOME, dues=DUE, left=opens_of("abcd", *numbers))
        dues = tuple((name, 1) for name in "abcdef")
        check_call(self, least_payers, ("o", "p"), book=GRAND, dues=dues, left=opens_of("abcdef", 0, 0, 0, 0, 1, 1))
        check_call(self, least_payers, ("o", "p", "r"), book=GRAND, dues=dues, left=zeros("abcdef"))
        check_call(self, least_payers, ("p", "r"), book=GRAND, dues=dues, left=opens_of("abcdef", 1, 1, 0, 0, 0, 1))
        check_call(self, least_payers, ("r",), book=GRAND, dues=dues, left=opens_of("abcdef", 1, 1, 1, 1, 0, 0))


class Whole(unittest.TestCase):

    def test_payable_and_rounds(self):
        for book, dues, sets in (
                (HOME, DUE, (("a", "b"), ("d",))), (HOME, LATE, (("a", "c"), ("b",), ("d",))),
                (HOME, zeros("abcd"), ()), (HOME, opens_of("abcd", 0, 0, 0, 1), (("d",),)), (NONE, (), ()),
                (ONLY_PAYERS, (), ()), (ONLY_BILLS, opens_of(ONLY_BILLS[0], 1, GREAT), ()),
                (EMPTY_LISTS, opens_of("ab", 1, 2), ()), (BOTH, opens_of("abz", 1, 1, 1), (("a", "b"),)),
                (BOTH, opens_of("abz", 0, GREAT, 1), (("b",),)),
                (ROW, opens_of("abcdef", 1, 1, 1, 1, 1, 1), (("f",), ("e",), ("d",), ("c",), ("b",), ("a",))),
                (ROW, opens_of("abcdef", 1, 0, 1, 0, GREAT, 0), (("e",), ("c",), ("a",)))):
            check_call(self, rounds, sets, book=book, dues=dues)
            check_call(self, payable, tuple(sorted(bill for some in sets for bill in some)), book=book, dues=dues)

    def test_whole_sets(self):
        for book, dues, sets in (
                (HOME, DUE, [(), ("a",), ("a", "b"), ("a", "b", "d"), ("b",), ("b", "d")]), (NONE, (), [()]),
                (ONLY_PAYERS, (), [()]), (ONLY_BILLS, opens_of(ONLY_BILLS[0], 1, 1), [()]),
                (EMPTY_LISTS, opens_of("ab", 1, 1), [()]), (HOME, zeros("abcd"), [()]),
                (BOTH, opens_of("abz", 1, 1, 1), [(), ("a",), ("a", "b"), ("b",)]),
                (ROW, opens_of("abcdef", 1, 0, 1, 0, GREAT, 0), [(), ("a", "c", "e"), ("c", "e"), ("e",)])):
            check_call(self, whole_sets, sets, book=book, dues=dues)
            check_call(self, how_many_whole, len(sets), book=book, dues=dues)

    def test_can_be_whole(self):
        for dues, some, can in (
                (LATE, ("b", "d"), False), (LATE, ("b", "c", "d"), True), (DUE, ("c",), False), (DUE, (), True),
                (DUE, ("a", "c"), False), (DUE, ("d",), False), (DUE, ("b", "d"), True), (LATE, ("a", "b"), True),
                (zeros("abcd"), ("a",), False), (zeros("abcd"), (), True)):
            check_call(self, can_be_whole, can, book=HOME, dues=dues, some=some)
        check_call(self, can_be_whole, True, book=NONE, dues=(), some=())
        check_call(self, can_be_whole, False, book=ONLY_BILLS, dues=opens_of(ONLY_BILLS[0], 1, 1), some=("a",))

    def test_how_many_opens(self):
        for book, dues, many in (
                (HOME, DUE, 15), (HOME, opens_of("abcd", GREAT, 1, 0, 0), 2 * GREAT + 2), (NONE, (), 1),
                (ONLY_PAYERS, (), 1), (ONLY_BILLS, opens_of(ONLY_BILLS[0], GREAT, 1), 1), (HOME, zeros("abcd"), 1),
                (EMPTY_LISTS, opens_of("ab", 3, 4), 1), (BOTH, opens_of("abz", GREAT, GREAT, GREAT), (GREAT + 1) ** 2),
                (ROW, opens_of("abcdef", 0, 0, 0, 0, GREAT, GREAT), 2 * GREAT + 1)):
            check_call(self, how_many_opens, many, book=book, dues=dues)

    def test_least_ahead(self):
        for dues, bill, sets, always in (
                (DUE, "b", [()], ()), (LATE, "b", [("a",), ("c",)], ()), (LATE, "d", [("b", "c")], ("b", "c")),
                (DUE, "c", [], None), (LATE, "c", [()], ()), (DUE, "d", [("b",)], ("b",)), (LATE, "a", [()], ())):
            check_call(self, least_ahead, sets, book=HOME, dues=dues, bill=bill)
            check_call(self, always_ahead, always, book=HOME, dues=dues, bill=bill)
        ones = tuple((name, 1) for name in "abcdef")
        for bill, sets, always in (("c", [("a", "b"), ("d",), ("e",)], ()), ("e", [()], ()),
                                   ("f", [("d",), ("e",)], ())):
            check_call(self, least_ahead, sets, book=GRAND, dues=ones, bill=bill)
            check_call(self, always_ahead, always, book=GRAND, dues=ones, bill=bill)
        check_call(self, least_ahead, [tuple("bcdef")], book=ROW, dues=ones, bill="a")
        check_call(self, always_ahead, tuple("bcdef"), book=ROW, dues=ones, bill="a")
        for book, dues, bill in ((ONLY_BILLS, opens_of(ONLY_BILLS[0], 1, GREAT), "abcdefgh"),
                                 (EMPTY_LISTS, opens_of("ab", 1, 1), "a"), (BOTH, opens_of("abz", 1, 1, 1), "z")):
            check_call(self, least_ahead, [], book=book, dues=dues, bill=bill)
            check_call(self, always_ahead, None, book=book, dues=dues, bill=bill)


class Slowly(unittest.TestCase):

    def check_sets(self, book, dues, found):
        """The sets that can be whole, beside all that payments lead to."""
        open_bills = [bill for bill, number in dues if number > 0]
        sets = sorted(some for some in sets_of(open_bills) if with_closed(dues, some) in found)
        check_same(self, whole_sets(book, dues), sets)
        check_same(self, how_many_whole(book, dues), len(sets))
        for some in sets_of(book[0]):
            self.assertIs(can_be_whole(book, dues, some), some in sets)
        for one, other in itertools.combinations(sets, 2):
            self.assertIn(tuple(sorted(set(one) | set(other))), sets)
        for bill in book[0]:
            ahead = [some for some in sets if bill not in some and bill in at_once(book, with_closed(dues, some))]
            ahead = [some for some in ahead if not any(set(other) < set(some) for other in ahead)]
            check_same(self, least_ahead(book, dues, bill), ahead)
            always = tuple(sorted(set(ahead[0]).intersection(*ahead))) if ahead else None
            check_same(self, always_ahead(book, dues, bill), always)

    def check_rounds(self, book, dues, found):
        expected, now = [], dues
        while at_once(book, now):
            expected.append(at_once(book, now))
            now = with_closed(now, at_once(book, now))
        check_same(self, rounds(book, dues), tuple(expected))
        paid = {bill for opens in found for (bill, less), (name, number) in zip(opens, dues) if less < number}
        check_same(self, payable(book, dues), tuple(sorted(paid)))
        self.assertEqual(set(payable(book, dues)), {bill for some in expected for bill in some})

    def check_book(self, book, dues):
        owners = [payer for payer, row in book[1]]
        every = sum(number for bill, number in dues)
        found = all_opens(book, dues, owners, range(1, every + 1))
        self.assertEqual(found, all_opens(book, dues, owners, (1,)))
        check_same(self, how_many_opens(book, dues), len(found))
        by_some = {some: all_opens(book, dues, some, range(1, every + 1)) for some in sets_of(owners)}
        for left in below(dues):
            self.assertIs(can_stand(book, dues, left), left in found)
            payments = payments_for(book, dues, left)
            self.assertIs(payments is not None, left in found)
            if payments is not None:
                self.assertIs(is_payments(book, payments), True)
                self.assertIs(is_payments_for(book, dues, left, payments), True)
            able = [some for some in by_some if left in by_some[some]]
            least = min(able, key=lambda some: (len(some), some), default=None)
            check_same(self, least_payers(book, dues, left), least)
        self.check_sets(book, dues, found)
        self.check_rounds(book, dues, found)

    def test_all_books_of_two_bills(self):
        for book in books_of("ab", "pqr"):
            for dues in dues_of("ab", range(3)):
                self.check_book(book, dues)

    def test_some_books_of_three_bills(self):
        for book in list(books_of("abc", "pq")):
            for dues in (opens_of("abc", 1, 2, 1), opens_of("abc", 2, 1, 0)):
                self.check_book(book, dues)

    def test_some_books_of_four_bills(self):
        for book in list(books_of("abcd", "pq"))[::173] + list(books_of("abc", "pqr"))[::89]:
            self.check_book(book, tuple((name, 1) for name in book[0]))

    def test_six_bills_and_eight_payers(self):
        for book in (GRAND, (GRAND[0], tuple((payer, row[::-1]) for payer, row in GRAND[1]))):
            for dues in (tuple((name, 1) for name in "abcdef"), opens_of("abcdef", 0, 1, 2, 1, 0, 2)):
                found = all_opens(book, dues, "opqrstuv", (1,))
                check_same(self, how_many_opens(book, dues), len(found))
                for left in below(dues):
                    self.assertIs(can_stand(book, dues, left), left in found)
                self.check_sets(book, dues, found)
                self.check_rounds(book, dues, found)

    def test_by_the_guarantee(self):
        for dues in (DUE, LATE):
            for left in below(dues):
                less = [bill for (bill, number), (name, due) in zip(left, dues) if number < due]
                whole = [bill for bill in less if dict(left)[bill] == 0]
                in_a_row = any(all(bill in at_once(HOME, with_closed(dues, row[:place]))
                                   for place, bill in enumerate(row)) for row in itertools.permutations(whole))
                others = [bill for bill in less if bill not in whole]
                at_last = all(bill in at_once(HOME, with_closed(dues, whole)) for bill in others)
                self.assertIs(can_stand(HOME, dues, left), in_a_row and at_last)


class Wrong(unittest.TestCase):

    def test_the_first_one_that_is_no_bill(self):
        for some, name in ((("b", "q"), "q"), (("A", "a", "q"), "A"), (("", "a"), ""), (("ann",), "ann"),
                           (("c", "no name"), "no name"), (("a", "b", "c", "d", "e", "f"), "e")):
            check_raises(self, can_be_whole, NoBill(name), book=HOME, dues=DUE, some=some)
        for book, bill in ((HOME, "q"), (HOME, "ann"), (HOME, ""), (NONE, "a"), (ONLY_PAYERS, "a"), (ONLY_BILLS, "b")):
            check_raises(self, least_ahead, NoBill(bill), book=book, dues=zeros(book[0]), bill=bill)
            check_raises(self, always_ahead, NoBill(bill), book=book, dues=zeros(book[0]), bill=bill)
            check_raises(self, can_be_whole, NoBill(bill), book=book, dues=zeros(book[0]), some=(bill,))


if __name__ == "__main__":
    unittest.main()
