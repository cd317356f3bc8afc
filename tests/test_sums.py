"""Sums in good books: ordinary inputs, edges, wrong inputs, and all small cases beside a slow second way."""

import itertools
import unittest

from helping import all_alike, books_of, check_call, check_raises, check_same, coins, dues_of
from ownlists.errors import NoBill, NoPayer, NotGood
from ownlists.sums import back_by, back_span, least_to_pay, next_due, next_paid, open_by, open_spans

NONE = ((), ())
TREE = (("gas", "rent", "tax"), (("ann", ("rent", "tax")), ("bob", ("gas", "rent", "tax")), ("cy", ("tax",))))
OWED, NAMES = (("gas", 30), ("rent", 50), ("tax", 20)), ("ann", "bob", "cy")
PAID, NOTHING = tuple(zip(NAMES, (40, 45, 5))), tuple(zip(NAMES, (0, 0, 0)))
ONLY_BILLS = (("a", "abcdefgh"), ())
ONLY_PAYERS = ((), (("a", ()), ("zzzzzzzz", ())))
EMPTY_LISTS = (("a", "b"), (("p", ()), ("q", ())))
# The NAMEs are bills and payers.
BOTH = (("a", "b"), (("a", ("b", "a")), ("b", ("a", "b"))))
ODD = (("a", "b"), (("p", ("a",)), ("q", ("a", "b"))))
# Three pairs do not agree: bob and dan, bob and eve, cid and dan. ann agrees with all.
ODDS = (("a", "b", "c"), (("ann", ()), ("bob", ("b",)), ("cid", ("a", "c")), ("dan", ("b", "a")), ("eve", ("b", "c"))))
GREAT = 10 ** 40


def zeros(names):
    """Each of these NAMEs with 0."""
    return tuple((name, 0) for name in names)


def good_books(names, owners):
    """The BOOKs each two of whose LISTS agree, in a second way."""
    return [book for book in books_of(names, owners) if all_alike([row for payer, row in book[1]])]


def by_coins(book, dues, sums):
    """What is due in the end, and what is given back in all, coin by coin."""
    end, moments, triples, back = coins(book, dues, sums, range(len(sums)))
    return end, sum(back)


class EndsBySums(unittest.TestCase):

    def check_end(self, book, dues, sums, opens, back):
        check_call(self, open_by, opens, book=book, dues=dues, sums=sums)
        check_call(self, back_by, back, book=book, dues=dues, sums=sums)

    def test_open_by_and_back_by(self):
        self.check_end(TREE, OWED, PAID, (("gas", 0), ("rent", 0), ("tax", 10)), 0)
        self.check_end(TREE, OWED, NOTHING, OWED, 0)
        self.check_end(TREE, OWED, tuple(zip(NAMES, (70, 0, 5))), (("gas", 30), ("rent", 0), ("tax", 0)), 5)
        self.check_end(TREE, OWED, tuple(zip(NAMES, (0, 100, 0))), zeros(TREE[0]), 0)
        self.check_end(TREE, OWED, tuple(zip(NAMES, (1, 100, 7))), zeros(TREE[0]), 8)
        self.check_end(TREE, zeros(TREE[0]), PAID, zeros(TREE[0]), 90)
        self.check_end(TREE, zeros(TREE[0]), NOTHING, zeros(TREE[0]), 0)

    def test_great_numbers(self):
        self.check_end(TREE, OWED, tuple(zip(NAMES, (GREAT, 0, 0))), (("gas", 30), ("rent", 0), ("tax", 0)), GREAT - 70)
        dues = tuple(zip(TREE[0], (GREAT, GREAT - 1, 5)))
        self.check_end(TREE, dues, tuple(zip(NAMES, (GREAT, GREAT, 3))), (("gas", 0), ("rent", 0), ("tax", 1)), 0)
        self.check_end(TREE, dues, tuple(zip(NAMES, (0, GREAT, GREAT))), (("gas", 0), ("rent", GREAT - 1), ("tax", 0)),
                       GREAT - 5)

    def test_edges(self):
        self.check_end(NONE, (), (), (), 0)
        self.check_end(ONLY_BILLS, (("a", 3), ("abcdefgh", 0)), (), (("a", 3), ("abcdefgh", 0)), 0)
        self.check_end(ONLY_PAYERS, (), (("a", 2), ("zzzzzzzz", GREAT)), (), GREAT + 2)
        self.check_end(EMPTY_LISTS, (("a", 1), ("b", 2)), (("p", 0), ("q", 4)), (("a", 1), ("b", 2)), 4)
        self.check_end(BOTH, (("a", 1), ("b", 2)), (("a", 1), ("b", 3)), (("a", 0), ("b", 0)), 1)

    def test_eight_payers_and_six_bills(self):
        names = tuple("abcdef")
        rows = [names[at:] + names[:at] for at in range(6)] + [names, ()]
        book = (names, tuple(zip("opqrstuv", rows)))
        dues = tuple(zip(names, (3, 0, 1, 4, 2, 5)))
        sums = tuple(zip("opqrstuv", (1, 2, 0, 3, 1, 0, 2, 4)))
        end, back = by_coins(book, dues, sums)
        self.check_end(book, dues, sums, end, back)
        self.assertEqual(coins(book, dues, sums, (7, 5, 3, 1, 6, 4, 2, 0))[0], end)
        self.assertEqual(sum(number for bill, number in end), 15 - 13 + back)

    def test_sums_alone_count_not_parts_and_order(self):
        for book in good_books("abc", "pq")[::3] + good_books("ab", "pqr")[::2]:
            names = [payer for payer, row in book[1]]
            for dues in (tuple(zip(book[0], (1, 2, 1))), tuple(zip(book[0], (2, 0, 3)))):
                for amounts in ((2, 1, 1), (3, 2, 0), (0, 4, 1)):
                    sums = tuple(zip(names, amounts))
                    parts = tuple((name, amount // 2) for name, amount in sums)
                    parts = parts + tuple((name, amount - amount // 2) for name, amount in sums)
                    asked = open_by(book, dues, sums), back_by(book, dues, sums)
                    for order in itertools.permutations(range(len(sums))):
                        end, moments, triples, back = coins(book, dues, sums, order)
                        check_same(self, asked, (end, sum(back)))
                    for order in list(itertools.permutations(range(len(parts))))[::17]:
                        end, moments, triples, back = coins(book, dues, parts, order)
                        check_same(self, asked, (end, sum(back)))


class OneMore(unittest.TestCase):

    def test_next_paid(self):
        for sums, bills in ((PAID, ("tax", "tax", "tax")), (NOTHING, ("rent", "gas", "tax")),
                            (tuple(zip(NAMES, (70, 0, 5))), (None, "gas", None)),
                            (tuple(zip(NAMES, (0, 100, 0))), (None, None, None)),
                            (tuple(zip(NAMES, (50, 0, 0))), ("tax", "gas", "tax")),
                            (tuple(zip(NAMES, (0, 0, GREAT))), ("rent", "gas", None))):
            for payer, bill in zip(NAMES, bills):
                check_call(self, next_paid, bill, book=TREE, dues=OWED, sums=sums, payer=payer)
        check_call(self, next_paid, None, book=ONLY_PAYERS, dues=(), sums=zeros(("a", "zzzzzzzz")), payer="a")
        check_call(self, next_paid, None, book=EMPTY_LISTS, dues=(("a", 1), ("b", 0)), sums=zeros("pq"), payer="q")

    def test_next_due(self):
        for sums, bills in ((PAID, ("tax", "tax", "tax")), (NOTHING, ("gas", "rent", "tax")),
                            (tuple(zip(NAMES, (70, 0, 5))), ("gas", None, None)),
                            (tuple(zip(NAMES, (70, 0, 0))), ("gas", "tax", "tax")),
                            (tuple(zip(NAMES, (0, 100, 0))), ("tax", "tax", "tax")),
                            (tuple(zip(NAMES, (0, 101, 0))), (None, None, None)),
                            (tuple(zip(NAMES, (0, 99, GREAT))), (None, None, None)),
                            (tuple(zip(NAMES, (0, 31, GREAT))), ("rent", "rent", None))):
            for bill, more in zip(TREE[0], bills):
                check_call(self, next_due, more, book=TREE, dues=OWED, sums=sums, bill=bill)
        check_call(self, next_due, "abcdefgh", book=ONLY_BILLS, dues=zeros(ONLY_BILLS[0]), sums=(), bill="abcdefgh")
        check_call(self, next_due, "b", book=EMPTY_LISTS, dues=zeros("ab"), sums=(("p", 5), ("q", 5)), bill="b")

    def test_least_to_pay(self):
        for sums, payer, bill, least in (
                (PAID, "ann", "tax", 10), (PAID, "cy", "gas", 0), (NOTHING, "ann", "tax", 70),
                (NOTHING, "bob", "tax", 100), (NOTHING, "cy", "tax", 20), (NOTHING, "ann", "gas", None),
                (NOTHING, "bob", "gas", 30), (NOTHING, "bob", "rent", 80), (NOTHING, "cy", "rent", None),
                (PAID, "ann", "gas", 0),
                (tuple(zip(NAMES, (0, 0, 20))), "ann", "tax", 0), (tuple(zip(NAMES, (0, 0, 19))), "ann", "tax", 51),
                (tuple(zip(NAMES, (GREAT, 0, 0))), "bob", "gas", 30),
                (tuple(zip(NAMES, (GREAT, 0, 0))), "cy", "gas", None)):
            check_call(self, least_to_pay, least, book=TREE, dues=OWED, sums=sums, payer=payer, bill=bill)
        dues = tuple(zip(TREE[0], (GREAT, GREAT, GREAT)))
        check_call(self, least_to_pay, 3 * GREAT - 1, book=TREE, dues=dues, sums=tuple(zip(NAMES, (1, 0, 0))),
                   payer="bob", bill="tax")
        check_call(self, least_to_pay, 0, book=EMPTY_LISTS, dues=zeros("ab"), sums=zeros("pq"), payer="p", bill="a")
        check_call(self, least_to_pay, None, book=EMPTY_LISTS, dues=(("a", 1), ("b", 0)), sums=zeros("pq"), payer="p",
                   bill="a")

    def check_one_more(self, book, dues, sums):
        """All that one more changes, beside what is due in the end by the changed sums and dues."""
        end, back = by_coins(book, dues, sums)
        for payer, row in book[1]:
            more = tuple((name, amount + (name == payer)) for name, amount in sums)
            after, returned = by_coins(book, dues, more)
            less = [bill for bill, number in end if dict(after)[bill] == number - 1]
            self.assertEqual((len(less), returned), (1, back) if less else (0, back + 1))
            self.assertEqual(sum(number for bill, number in after), sum(number for bill, number in end) - len(less))
            check_same(self, next_paid(book, dues, sums, payer), less[0] if less else None)
        for bill in book[0]:
            more = tuple((name, number + (name == bill)) for name, number in dues)
            after, returned = by_coins(book, more, sums)
            greater = [name for name, number in end if dict(after)[name] == number + 1]
            self.assertEqual((len(greater), returned), (1, back) if greater else (0, back - 1))
            self.assertEqual(sum(number for name, number in after), sum(number for name, number in end) + len(greater))
            check_same(self, next_due(book, dues, sums, bill), greater[0] if greater else None)

    def check_least(self, book, dues, sums):
        """Beside all amounts up to what is due in all."""
        for payer, row in book[1]:
            for bill in book[0]:
                found = None
                for amount in range(sum(number for name, number in dues), -1, -1):
                    more = tuple((name, number + amount if name == payer else number) for name, number in sums)
                    if dict(by_coins(book, dues, more)[0])[bill] == 0:
                        found = amount
                check_same(self, least_to_pay(book, dues, sums, payer, bill), found)

    def test_all_good_books_of_two_bills_and_two_payers(self):
        for book in good_books("ab", "pq"):
            for dues in dues_of("ab", range(3)):
                for amounts in itertools.product(range(4), repeat=2):
                    self.check_one_more(book, dues, tuple(zip("pq", amounts)))
                    self.check_least(book, dues, tuple(zip("pq", amounts)))

    def test_good_books_of_three_bills(self):
        for book in good_books("abc", "pq"):
            for dues in (tuple(zip("abc", (1, 1, 1))), tuple(zip("abc", (2, 1, 0))), tuple(zip("abc", (0, 2, 3)))):
                for amounts in ((0, 0), (1, 2), (3, 1), (2, 3), (0, 5)):
                    self.check_one_more(book, dues, tuple(zip("pq", amounts)))
                    self.check_least(book, dues, tuple(zip("pq", amounts)))


class Spans(unittest.TestCase):

    def check_spans(self, book, dues, lows, highs, spans, back):
        check_call(self, open_spans, spans, book=book, dues=dues, lows=lows, highs=highs)
        check_call(self, back_span, back, book=book, dues=dues, lows=lows, highs=highs)

    def test_spans(self):
        low, high = tuple(zip(NAMES, (40, 45, 0))), tuple(zip(NAMES, (40, 60, 10)))
        self.check_spans(TREE, OWED, low, high, (("gas", 0, 0), ("rent", 0, 0), ("tax", 0, 15)), (0, 10))
        self.check_spans(TREE, OWED, NOTHING, NOTHING, tuple((bill, due, due) for bill, due in OWED), (0, 0))
        self.check_spans(TREE, OWED, NOTHING, tuple(zip(NAMES, (GREAT, 7, 0))),
                         (("gas", 23, 30), ("rent", 0, 50), ("tax", 0, 20)), (0, GREAT - 70))
        self.check_spans(TREE, OWED, tuple(zip(NAMES, (0, 0, 21))), tuple(zip(NAMES, (0, 0, 23))),
                         (("gas", 30, 30), ("rent", 50, 50), ("tax", 0, 0)), (1, 3))
        self.check_spans(NONE, (), (), (), (), (0, 0))
        self.check_spans(ONLY_BILLS, (("a", 3), ("abcdefgh", 0)), (), (), (("a", 3, 3), ("abcdefgh", 0, 0)), (0, 0))
        self.check_spans(ONLY_PAYERS, (), (("a", 1), ("zzzzzzzz", 0)), (("a", 1), ("zzzzzzzz", GREAT)), (),
                         (1, GREAT + 1))
        self.check_spans(EMPTY_LISTS, (("a", 1), ("b", 0)), (("p", 0), ("q", 2)), (("p", 3), ("q", 2)),
                         (("a", 1, 1), ("b", 0, 0)), (2, 5))

    def check_each_between(self, book, dues, lows, highs):
        """The spans hold just the numbers that all sums between lead to."""
        ranges = [range(low, high + 1) for (payer, low), (name, high) in zip(lows, highs)]
        found = [by_coins(book, dues, tuple(zip([payer for payer, row in book[1]], amounts)))
                 for amounts in itertools.product(*ranges)]
        spans = open_spans(book, dues, lows, highs)
        self.assertEqual([bill for bill, least, greatest in spans], list(book[0]))
        for bill, least, greatest in spans:
            self.assertEqual({dict(end)[bill] for end, back in found}, set(range(least, greatest + 1)))
        least, greatest = back_span(book, dues, lows, highs)
        self.assertEqual({back for end, back in found}, set(range(least, greatest + 1)))

    def test_each_number_between(self):
        for book in good_books("ab", "pqr")[::3] + good_books("abc", "pq")[::2]:
            names = [payer for payer, row in book[1]]
            for due in ((1, 2, 1), (3, 0, 2)):
                for low, high in (((0, 0, 0), (2, 3, 1)), ((1, 0, 2), (1, 4, 2)), ((2, 1, 0), (5, 1, 1))):
                    lows, highs = tuple(zip(names, low)), tuple(zip(names, high))
                    self.check_each_between(book, tuple(zip(book[0], due)), lows, highs)


class Wrong(unittest.TestCase):

    def test_no_payer_ahead_of_no_bill_ahead_of_not_good(self):
        for book, sums in ((ODD, zeros("pq")), (TREE, NOTHING)):
            asked = {"book": book, "dues": zeros(book[0]), "sums": sums}
            for payer in ("cyd", "a", "gas", "", "P", "no name", "abcdefghi"):
                check_raises(self, next_paid, NoPayer(payer), **asked, payer=payer)
                for bill in ("a", "gas", "tax", "zz", ""):
                    check_raises(self, least_to_pay, NoPayer(payer), **asked, payer=payer, bill=bill)
            for bill in ("p", "ann", "zz", "", "A", "no name"):
                check_raises(self, next_due, NoBill(bill), **asked, bill=bill)
                check_raises(self, least_to_pay, NoBill(bill), **asked, payer=sums[0][0], bill=bill)
        check_raises(self, next_paid, NoPayer("a"), book=NONE, dues=(), sums=(), payer="a")
        check_raises(self, next_due, NoBill("a"), book=NONE, dues=(), sums=(), bill="a")
        check_raises(self, least_to_pay, NoPayer("a"), book=ONLY_BILLS, dues=zeros(ONLY_BILLS[0]), sums=(), payer="a",
                     bill="b")
        check_raises(self, least_to_pay, NoBill("b"), book=ONLY_PAYERS, dues=(), sums=zeros(("a", "zzzzzzzz")),
                     payer="a", bill="b")

    def check_not_good(self, book, error):
        dues = zeros(book[0])
        sums = zeros([payer for payer, row in book[1]])
        for function in (open_by, back_by):
            check_raises(self, function, error, book=book, dues=dues, sums=sums)
        for function in (open_spans, back_span):
            check_raises(self, function, error, book=book, dues=dues, lows=sums, highs=sums)
        for payer, row in book[1]:
            check_raises(self, next_paid, error, book=book, dues=dues, sums=sums, payer=payer)
            for bill in book[0]:
                check_raises(self, least_to_pay, error, book=book, dues=dues, sums=sums, payer=payer, bill=bill)
        for bill in book[0]:
            check_raises(self, next_due, error, book=book, dues=dues, sums=sums, bill=bill)

    def test_not_good(self):
        self.check_not_good(ODD, NotGood("p", "q"))
        self.check_not_good(ODDS, NotGood("bob", "dan"))
        self.check_not_good((ODDS[0], ODDS[1][2:]), NotGood("cid", "dan"))
        self.check_not_good((("a", "b"), (("b", ("a", "b")), ("zz", ("b",)), ("zzz", ("a",)))), NotGood("b", "zzz"))

    def test_all_books_of_two_bills_and_three_payers(self):
        for book in books_of("ab", "pqr"):
            pairs = [(one[0], other[0]) for one, other in itertools.combinations(book[1], 2)
                     if not all_alike([one[1], other[1]])]
            asked = {"book": book, "dues": zeros("ab"), "sums": zeros("pqr")}
            if pairs:
                check_raises(self, open_by, NotGood(*pairs[0]), **asked)
            else:
                check_call(self, open_by, zeros("ab"), **asked)


if __name__ == "__main__":
    unittest.main()
