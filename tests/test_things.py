"""The functions with a parameter called thing: True for exactly the values described."""

import itertools
import unittest

from helping import check_call
from ownlists import errors
from ownlists.agree import is_parting
from ownlists.board import Board
from ownlists.books import is_book
from ownlists.changed import is_parting_payment
from ownlists.could import can_stand, is_payments_for
from ownlists.kinds import is_heads, is_table
from ownlists.laid import is_dues, is_order, is_payments
from ownlists.orders import is_parting_orders
from ownlists.told import is_open_ask, is_readings

BOOK = (("food", "gas", "rent"), (("ann", ("rent", "gas")), ("bob", ("gas", "food", "rent")), ("cid", ())))
DUES = (("food", 2), ("gas", 0), ("rent", 10 ** 40))
PAYMENTS = (("ann", 5), ("bob", 0), ("ann", 5), ("cid", 10 ** 40))
PARTING = ((("food", 2), ("gas", 3), ("rent", 10 ** 40)), (("ann", 10 ** 40 + 1), ("bob", 3)))
HEADS = (("food", ""), ("gas", "tax"), ("rent", "gas"), ("tax", "food"))
TABLE = (("food", "rent", "gas"), ("gas", "food", "rent"), ("rent", "food", "gas"))
GREAT = 10 ** 60
LEFT = (("food", 1), ("gas", 0), ("rent", 10 ** 40 - 1))
PAID = (("ann", 0), ("ann", 1), ("bob", 1), ("cid", 10 ** 40))
ORDERS = ((2, 0, 3, 1), (1, 3, 2, 0))
NAMES, TWOS = ("gas", "rent", "tax"), (("gas", 2), ("rent", 2), ("tax", 2))
READINGS = ((TWOS, 3, (("gas", 1), ("rent", 0), ("tax", 2))), (TWOS, 10 ** 40, TWOS))
ASK = ((("gas", 1), ("rent", 10 ** 40), ("tax", 0)), 1)
# bob has another LIST than in BOOK.
OTHER = (BOOK[0], (BOOK[1][0], ("bob", ("gas", "rent")), BOOK[1][2]))
TRIPLE = ((("food", 2), ("gas", 1), ("rent", 10 ** 40)), "bob", 2)
BOARD = Board(("food", "gas"))


def deep(inner, depth, kind=tuple):
    """inner within so many tuples or lists."""
    for turn in range(depth):
        inner = kind((inner,))
    return inner


# None of these is a BOOK, DUES, PAYMENTS, HEADS, a TABLE or parting; () and (0,) and the like are asked separately.
OTHERS = (
    0, 1, -1, GREAT, True, False, None, "", "a", "ab", "food", "A", errors.NoBill("a"), errors.BadText(), [], [()],
    [[], []], [(), ()], ([], []), ([], ()), ((), []), BOARD, (BOARD,), (BOARD, BOARD), (BOARD, ()), ((), BOARD),
    [BOARD], (BOARD, "a", 1), ((), (), ()), ((),), (None, None), (True, False), ("a", "b"),
    ("a", 1), (("a",), None), (("a",), "b"), ("a", ()), ((), "a"), ((1,), ()), ((), (1,)), ((), ("a",)), ((), ((),)),
    (("food", 1),), (("food", 1), ("gas", 1), ("rent", 1), ("tax", 1)), (errors.NoBill("a"), ()), {}, b"ab",
    deep((), 12), deep((), 12, list), deep("a", 11), deep(1, 12),
)


def with_one_changed(value, changes):
    """The values that differ from this one at one place, at any depth; changes(part) tells by what."""
    for part in changes(value):
        yield part
    if isinstance(value, tuple):
        for at, inner in enumerate(value):
            for part in with_one_changed(inner, changes):
                yield value[:at] + (part,) + value[at + 1:]


def kinds_changed(part):
    """Things of other kinds in the place of this part."""
    found = [None, True, False, "", "A", "a b", "abcdefghi", "a1", -1, [], {}, errors.NoBill("a"), BOARD, deep((), 3)]
    if isinstance(part, tuple):
        found += [list(part), 0, "a", part + (None,), part + ((),)]
    elif isinstance(part, str):
        found += [0, (), (part,), [part], part.upper(), part + "A", part + " ", part + "aaaaaaaaa"]
    else:
        found += ["a", (), (part,), [part], -1 - part, str(part)]
    return found


class Things(unittest.TestCase):

    def check_false(self, function, *asked):
        self.assertIs(function(*asked), False, asked)

    def check_kinds_changed(self, function, *asked, thing):
        self.assertIs(function(*asked, thing), True)
        for changed in with_one_changed(thing, kinds_changed):
            self.check_false(function, *asked, changed)

    def test_other_things(self):
        for thing in OTHERS:
            self.check_false(is_book, thing)
            self.check_false(is_dues, BOOK, thing)
            self.check_false(is_dues, ((), ()), thing)
            self.check_false(is_payments, BOOK, thing)
            self.check_false(is_payments, ((), ()), thing)
            self.check_false(is_order, PAYMENTS, thing)
            self.check_false(is_order, (), thing)
            self.check_false(is_parting, BOOK, thing)
            self.check_false(is_parting, ((), ()), thing)
            self.check_false(is_heads, thing)
            self.check_false(is_table, BOOK[0], thing)
            self.check_false(is_table, ("a",), thing)
            self.check_false(can_stand, BOOK, DUES, thing)
            self.check_false(can_stand, ((), ()), (), thing)
            self.check_false(is_payments_for, BOOK, DUES, LEFT, thing)
            self.check_false(is_payments_for, ((), ()), (), (), thing)
            self.check_false(is_parting_orders, BOOK, DUES, PAYMENTS, thing)
            self.check_false(is_parting_orders, ((), ()), (), (), thing)
            self.check_false(is_readings, NAMES, thing)
            self.check_false(is_readings, ("a",), thing)
            self.check_false(is_open_ask, NAMES, (), thing)
            self.check_false(is_open_ask, ("a",), (), thing)
            self.check_false(is_parting_payment, BOOK, OTHER, thing)
            self.check_false(is_parting_payment, ((), ()), ((), ()), thing)

    def test_one_part_changed(self):
        self.check_kinds_changed(is_book, thing=BOOK)
        self.check_kinds_changed(is_dues, BOOK, thing=DUES)
        self.check_kinds_changed(is_payments, BOOK, thing=PAYMENTS)
        self.check_kinds_changed(is_order, PAYMENTS, thing=(2, 0, 3, 1))
        self.check_kinds_changed(is_parting, BOOK, thing=PARTING)
        self.check_kinds_changed(is_table, BOOK[0], thing=TABLE)
        self.check_kinds_changed(is_table, ("a",), thing=(("a",),))
        self.check_kinds_changed(can_stand, BOOK, DUES, thing=LEFT)
        self.check_kinds_changed(is_payments_for, BOOK, DUES, LEFT, thing=PAID)
        self.check_kinds_changed(is_parting_orders, BOOK, PARTING[0], PARTING[1] + PAYMENTS[1:3], thing=ORDERS)
        self.check_kinds_changed(is_readings, NAMES, thing=READINGS)
        self.check_kinds_changed(is_open_ask, NAMES, (), thing=ASK)
        self.check_kinds_changed(is_parting_payment, BOOK, OTHER, thing=TRIPLE)

    def test_one_part_of_heads_changed(self):
        self.assertIs(is_heads(HEADS), True)
        # With "" for a head they are HEADS, too.
        without_one = [HEADS[:at] + ((bill, ""),) + HEADS[at + 1:] for at, (bill, head) in enumerate(HEADS)]
        for changed in with_one_changed(HEADS, kinds_changed):
            self.assertIs(is_heads(changed), changed in without_one, changed)


class IsBook(unittest.TestCase):

    def test_books(self):
        many = tuple(sorted("".join(letters) for letters in itertools.product("abcdefghij", repeat=3)))
        for thing in (
                ((), ()), BOOK, (("a",), ()), ((), (("a", ()),)), (("a", "b"), (("a", ("b", "a")), ("b", ("a",)))),
                (("a", "abcdefgh", "z"), (("zzzzzzzz", ("abcdefgh",)),)), (many, ()), (many, (("a", many[::-1]),)),
                (many, tuple((name, (name,)) for name in many)), ((), tuple((name, ()) for name in many))):
            check_call(self, is_book, True, thing=thing)

    def test_no_books(self):
        for thing in (
                (("b", "a"), ()), (("a", "a"), ()), (("a",), (("p", ("a", "a")),)), (("a",), (("p", ("b",)),)),
                (("a",), (("p", ("a", "b")),)), ((), (("q", ()), ("p", ()))), ((), (("p", ()), ("p", ()))),
                (("a",), (("p", ()), ("p", ("a",)))), (("a",), (("p", ("a",)), ("o", ()))), (("a",), (("p",),)),
                (("a",), (("p", ("a",), ()),)), (("a",), (("p", "a"),)), (("a",), ("p", ("a",))),
                (("a",), (), ()), (("a",),), (("gas", "Rent"), ()), (("a",), (("p q", ()),))):
            check_call(self, is_book, False, thing=thing)

    def test_all_small_things(self):
        names = ("a", "b", "c")
        rows = [row for many in range(3) for row in itertools.product(names[:2], repeat=many)]
        sets = [row for many in range(3) for row in itertools.product(names, repeat=many)]
        owned = list(itertools.product(("a", "q"), rows))
        for bills, pairs in itertools.product(sets, [row for many in range(3)
                                                     for row in itertools.product(owned, repeat=many)]):
            owners = [owner for owner, row in pairs]
            good = list(bills) == sorted(set(bills)) and owners == sorted(set(owners))
            good = good and all(len(set(row)) == len(row) and set(row) <= set(bills) for owner, row in pairs)
            self.assertIs(is_book((bills, pairs)), good)


class IsDues(unittest.TestCase):

    def test_dues(self):
        check_call(self, is_dues, True, book=BOOK, thing=DUES)
        check_call(self, is_dues, True, book=BOOK, thing=(("food", 0), ("gas", 0), ("rent", 0)))
        check_call(self, is_dues, True, book=BOOK, thing=(("food", GREAT), ("gas", 1), ("rent", 0)))
        check_call(self, is_dues, True, book=((), ()), thing=())
        check_call(self, is_dues, True, book=((), (("a", ()),)), thing=())
        check_call(self, is_dues, True, book=(("a", "abcdefgh"), ()), thing=(("a", 1), ("abcdefgh", 0)))

    def test_no_dues(self):
        for thing in (
                (), DUES[:2], DUES[1:], DUES[::-1], DUES + (("tax", 1),), (("ann", 1),) + DUES, DUES + DUES[2:],
                (("food", 2), ("gas", -1), ("rent", 4)), (("food", 2), ("gas", True), ("rent", 4)),
                (("food", 2), ("gas", False), ("rent", 4)), (("food", 2), ("gas", "3"), ("rent", 4)),
                (("food", 2), ["gas", 3], ("rent", 4)), list(DUES), (("food", 2), ("tax", 3), ("rent", 4)),
                (("food", 2), ("gas", 3, 3), ("rent", 4)), (("food", 2), ("gas",), ("rent", 4)), ("food", "gas", "rent")):
            check_call(self, is_dues, False, book=BOOK, thing=thing)
        check_call(self, is_dues, False, book=((), ()), thing=[])
        check_call(self, is_dues, False, book=((), (("a", ()),)), thing=(("a", 0),))


class IsPayments(unittest.TestCase):

    def test_payments(self):
        for thing in ((), PAYMENTS, (("bob", GREAT),), (("cid", 0),) * 50, tuple(("ann", at) for at in range(2000))):
            check_call(self, is_payments, True, book=BOOK, thing=thing)
        check_call(self, is_payments, True, book=((), ()), thing=())
        check_call(self, is_payments, True, book=((), (("a", ()), ("abcdefgh", ()))), thing=(("abcdefgh", 1), ("a", 2)))

    def test_no_payments(self):
        for thing in (
                [], list(PAYMENTS), (["ann", 1],), (("dan", 1),), (("ann", 1), ("gas", 1)), (("ann", -1),),
                (("ann", True),), (("ann", False),), (("ann", None),), (("ann", "1"),), (("ann",),), (("ann", 1, 1),),
                ("ann", 1), (("Ann", 1),), ((1, "ann"),), ((["ann"], 1),), ((("ann",), 1),), ((None, 1),)):
            check_call(self, is_payments, False, book=BOOK, thing=thing)
        check_call(self, is_payments, False, book=((), ()), thing=(("a", 0),))
        check_call(self, is_payments, False, book=(("a",), ()), thing=(("a", 0),))


class IsOrder(unittest.TestCase):

    def test_orders(self):
        for many in range(5):
            payments = PAYMENTS[:many]
            for thing in itertools.product(range(-1, many + 1), repeat=many):
                check_call(self, is_order, sorted(thing) == list(range(many)), payments=payments, thing=thing)
        many = tuple(reversed(range(500)))
        check_call(self, is_order, True, payments=(("ann", 1),) * 500, thing=many)

    def test_no_orders(self):
        for thing in (
                [1, 0], (0,), (1,), (0, 1, 2), (), (True, False), (False, True), (0, True), (1, False), ("0", "1"),
                (0, "1"), (None, 1), (0, (1,)), ((0, 1),), ((0,), (1,)), (0, [1]), 1, "01", None, True, (0, 0), (1, 2)):
            check_call(self, is_order, False, payments=PAYMENTS[:2], thing=thing)
        for thing in (0, False, None, [], "", (0,), ((),), (None,)):
            check_call(self, is_order, False, payments=(), thing=thing)
        check_call(self, is_order, True, payments=(), thing=())
        check_call(self, is_order, True, payments=(("ann", 5),), thing=(0,))
        for thing in ((False,), ([0],), [0], 0, (1,), (-1,)):
            check_call(self, is_order, False, payments=(("ann", 5),), thing=thing)


if __name__ == "__main__":
    unittest.main()
