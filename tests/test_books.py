"""Books of lists: ordinary inputs, edges and wrong inputs."""

import unittest

from helping import check_call, check_raises
from ownlists.books import ahead, behind, bills, list_of, parted, payers, payers_with, renamed, renamed_payers
from ownlists.books import struck, with_bill, with_list, with_payer, without_payer
from ownlists.errors import NoBill, NoPayer, Twice

NONE = ((), ())
BOOK = (("food", "gas", "rent"), (("ann", ("rent", "gas")), ("bob", ("gas", "food", "rent")), ("cid", ())))
ONLY_BILLS = (("a", "abcdefgh", "z"), ())
ONLY_PAYERS = ((), (("a", ()), ("zzzzzzzz", ())))
# Both NAMEs are bills and payers; c is a bill in no LIST.
BOTH = (("a", "b", "c"), (("a", ("b", "a")), ("b", ("a",))))
BOOKS = (NONE, BOOK, ONLY_BILLS, ONLY_PAYERS, BOTH)


class Told(unittest.TestCase):

    def test_bills(self):
        for book, names in zip(BOOKS, ((), ("food", "gas", "rent"), ("a", "abcdefgh", "z"), (), ("a", "b", "c"))):
            check_call(self, bills, names, book=book)

    def test_payers(self):
        for book, names in zip(BOOKS, ((), ("ann", "bob", "cid"), (), ("a", "zzzzzzzz"), ("a", "b"))):
            check_call(self, payers, names, book=book)

    def test_list_of(self):
        for book in BOOKS:
            for payer, row in book[1]:
                check_call(self, list_of, row, book=book, payer=payer)

    def test_list_of_no_payer(self):
        for book, payer in ((NONE, "a"), (BOOK, "gas"), (BOOK, "an"), (ONLY_BILLS, "a"), (BOTH, "c")):
            check_raises(self, list_of, NoPayer(payer), book=book, payer=payer)

    def test_payers_with(self):
        for book, bill, names in (
                (BOOK, "rent", ("ann", "bob")), (BOOK, "gas", ("ann", "bob")), (BOOK, "food", ("bob",)),
                (ONLY_BILLS, "abcdefgh", ()), (BOTH, "a", ("a", "b")), (BOTH, "b", ("a",)), (BOTH, "c", ())):
            check_call(self, payers_with, names, book=book, bill=bill)

    def test_payers_with_no_bill(self):
        for book, bill in ((NONE, "a"), (BOOK, "ann"), (BOOK, "ren"), (ONLY_PAYERS, "a"), (BOTH, "d")):
            check_raises(self, payers_with, NoBill(bill), book=book, bill=bill)

    def test_ahead_and_behind(self):
        for book, payer, bill, first, last in (
                (BOOK, "bob", "gas", (), ("food", "rent")), (BOOK, "bob", "food", ("gas",), ("rent",)),
                (BOOK, "bob", "rent", ("gas", "food"), ()), (BOOK, "ann", "rent", (), ("gas",)),
                (BOOK, "ann", "gas", ("rent",), ()), (BOTH, "b", "a", (), ()), (BOTH, "a", "a", ("b",), ())):
            check_call(self, ahead, first, book=book, payer=payer, bill=bill)
            check_call(self, behind, last, book=book, payer=payer, bill=bill)

    def test_ahead_and_behind_of_a_bill_that_is_not_in_the_list(self):
        for book, payer, bill in ((BOOK, "ann", "food"), (BOOK, "cid", "gas"), (BOTH, "b", "b"), (BOTH, "a", "c")):
            for function in (ahead, behind):
                check_call(self, function, None, book=book, payer=payer, bill=bill)

    def test_ahead_and_behind_wrong(self):
        for function in (ahead, behind):
            check_raises(self, function, NoPayer("dan"), book=BOOK, payer="dan", bill="gas")
            check_raises(self, function, NoPayer("dan"), book=BOOK, payer="dan", bill="tax")
            check_raises(self, function, NoBill("tax"), book=BOOK, payer="ann", bill="tax")
            check_raises(self, function, NoBill("bob"), book=BOOK, payer="cid", bill="bob")
            check_raises(self, function, NoPayer("a"), book=NONE, payer="a", bill="a")
            check_raises(self, function, NoBill("a"), book=ONLY_PAYERS, payer="a", bill="a")


class PayersChanged(unittest.TestCase):

    def test_with_payer(self):
        check_call(self, with_payer, ((), (("a", ()),)), book=NONE, payer="a", row=())
        for payer, row, place in (("dan", ("food", "rent"), 3), ("ab", (), 0), ("annb", ("gas",), 1), ("gas", ("gas",), 3)):
            made = (BOOK[0], BOOK[1][:place] + ((payer, row),) + BOOK[1][place:])
            check_call(self, with_payer, made, book=BOOK, payer=payer, row=row)
        made = (BOTH[0], BOTH[1] + (("abcdefgh", ("c", "b", "a")),))
        made = (made[0], tuple(sorted(made[1])))
        check_call(self, with_payer, made, book=BOTH, payer="abcdefgh", row=("c", "b", "a"))

    def test_with_payer_wrong(self):
        check_raises(self, with_payer, Twice("ann"), book=BOOK, payer="ann", row=("gas",))
        check_raises(self, with_payer, Twice("cid"), book=BOOK, payer="cid", row=())
        check_raises(self, with_payer, Twice("ann"), book=BOOK, payer="ann", row=("tax",))
        check_raises(self, with_payer, NoBill("tax"), book=BOOK, payer="dan", row=("gas", "tax", "car"))
        check_raises(self, with_payer, NoBill("dan"), book=BOOK, payer="dan", row=("dan",))
        check_raises(self, with_payer, NoBill("a"), book=NONE, payer="a", row=("a",))

    def test_without_payer(self):
        check_call(self, without_payer, (BOOK[0], BOOK[1][1:]), book=BOOK, payer="ann")
        check_call(self, without_payer, (BOOK[0], BOOK[1][:2]), book=BOOK, payer="cid")
        check_call(self, without_payer, (BOTH[0], BOTH[1][:1]), book=BOTH, payer="b")
        check_call(self, without_payer, NONE, book=((), (("a", ()),)), payer="a")

    def test_without_payer_wrong(self):
        for book, payer in ((NONE, "a"), (BOOK, "gas"), (BOTH, "c"), (ONLY_BILLS, "z")):
            check_raises(self, without_payer, NoPayer(payer), book=book, payer=payer)

    def test_with_list(self):
        check_call(self, with_list, (BOOK[0], (("ann", ()),) + BOOK[1][1:]), book=BOOK, payer="ann", row=())
        row = ("food", "rent", "gas")
        check_call(self, with_list, (BOOK[0], BOOK[1][:2] + (("cid", row),)), book=BOOK, payer="cid", row=row)
        check_call(self, with_list, BOOK, book=BOOK, payer="bob", row=("gas", "food", "rent"))
        check_call(self, with_list, (BOTH[0], (("a", ("c",)), ("b", ("a",)))), book=BOTH, payer="a", row=("c",))

    def test_with_list_wrong(self):
        check_raises(self, with_list, NoPayer("dan"), book=BOOK, payer="dan", row=("gas",))
        check_raises(self, with_list, NoPayer("dan"), book=BOOK, payer="dan", row=("tax",))
        check_raises(self, with_list, NoPayer("dan"), book=BOOK, payer="dan", row=())
        check_raises(self, with_list, NoBill("tax"), book=BOOK, payer="ann", row=("rent", "tax", "car"))
        check_raises(self, with_list, NoBill("a"), book=ONLY_PAYERS, payer="a", row=("a",))

    def test_renamed_payers(self):
        check_call(self, renamed_payers, BOOK, book=BOOK, pairs=())
        check_call(self, renamed_payers, NONE, book=NONE, pairs=())
        check_call(self, renamed_payers, BOOK, book=BOOK, pairs=(("bob", "bob"), ("ann", "ann")))
        made = (BOOK[0], (("ann", ()), ("bob", ("rent", "gas")), ("cid", ("gas", "food", "rent"))))
        check_call(self, renamed_payers, made, book=BOOK, pairs=(("ann", "bob"), ("bob", "cid"), ("cid", "ann")))
        made = (BOOK[0], (BOOK[1][1], BOOK[1][2], ("z", BOOK[1][0][1])))
        check_call(self, renamed_payers, made, book=BOOK, pairs=(("ann", "z"),))
        made = (BOTH[0], (("c", ("b", "a")), ("d", ("a",))))
        check_call(self, renamed_payers, made, book=BOTH, pairs=(("b", "d"), ("a", "c")))

    def test_renamed_payers_wrong(self):
        check_raises(self, renamed_payers, NoPayer("x"), book=BOOK, pairs=(("ann", "zoe"), ("x", "y"), ("a", "y")))
        check_raises(self, renamed_payers, NoPayer("gas"), book=BOOK, pairs=(("gas", "zoe"),))
        check_raises(self, renamed_payers, NoPayer("x"), book=BOOK, pairs=(("ann", "bob"), ("x", "y")))
        check_raises(self, renamed_payers, Twice("bob"), book=BOOK, pairs=(("ann", "bob"),))
        check_raises(self, renamed_payers, Twice("x"), book=BOOK, pairs=(("cid", "x"), ("ann", "x")))
        pairs = (("ann", "zoe"), ("bob", "zoe"), ("cid", "eve"), ("dan", "eve"))
        book = with_payer(BOOK, "dan", ())
        check_raises(self, renamed_payers, Twice("eve"), book=book, pairs=pairs)
        check_raises(self, renamed_payers, NoPayer("dan"), book=BOOK, pairs=pairs)


class BillsChanged(unittest.TestCase):

    def test_with_bill(self):
        check_call(self, with_bill, (("a",), ()), book=NONE, bill="a")
        for bill, place in (("tax", 3), ("ann", 0), ("gasa", 2), ("foods", 1), ("z", 3), ("abcdefgh", 0)):
            made = (BOOK[0][:place] + (bill,) + BOOK[0][place:], BOOK[1])
            check_call(self, with_bill, made, book=BOOK, bill=bill)
        check_call(self, with_bill, (("a",), ONLY_PAYERS[1]), book=ONLY_PAYERS, bill="a")

    def test_with_bill_wrong(self):
        for book, bill in ((BOOK, "gas"), (BOTH, "c"), (ONLY_BILLS, "abcdefgh")):
            check_raises(self, with_bill, Twice(bill), book=book, bill=bill)

    def test_struck(self):
        made = (("food", "gas"), (("ann", ("gas",)), ("bob", ("gas", "food")), ("cid", ())))
        check_call(self, struck, made, book=BOOK, bill="rent")
        check_call(self, struck, (("b", "c"), (("a", ("b",)), ("b", ()))), book=BOTH, bill="a")
        check_call(self, struck, (("a", "b"), BOTH[1]), book=BOTH, bill="c")
        check_call(self, struck, NONE, book=(("a",), ()), bill="a")

    def test_struck_wrong(self):
        for book, bill in ((NONE, "a"), (BOOK, "ann"), (ONLY_PAYERS, "zzzzzzzz")):
            check_raises(self, struck, NoBill(bill), book=book, bill=bill)

    def test_parted(self):
        rows = (("ann", ("rent", "a", "gas")), ("bob", ("gas", "food", "rent", "a")), ("cid", ()))
        check_call(self, parted, (("a", "food", "gas", "rent"), rows), book=BOOK, bill="rent", name="a")
        rows = (("ann", ("rent", "gas", "ann")), ("bob", ("gas", "ann", "food", "rent")), ("cid", ()))
        check_call(self, parted, (("ann", "food", "gas", "rent"), rows), book=BOOK, bill="gas", name="ann")
        check_call(self, parted, (("a", "b", "bb", "c"), (("a", ("b", "bb", "a")), ("b", ("a",)))),
                   book=BOTH, bill="b", name="bb")
        check_call(self, parted, (("a", "b", "c", "d"), BOTH[1]), book=BOTH, bill="c", name="d")

    def test_parted_wrong(self):
        check_raises(self, parted, NoBill("tax"), book=BOOK, bill="tax", name="heat")
        check_raises(self, parted, NoBill("tax"), book=BOOK, bill="tax", name="gas")
        check_raises(self, parted, NoBill("tax"), book=BOOK, bill="tax", name="tax")
        check_raises(self, parted, Twice("food"), book=BOOK, bill="gas", name="food")
        check_raises(self, parted, Twice("gas"), book=BOOK, bill="gas", name="gas")
        check_raises(self, parted, NoBill("a"), book=NONE, bill="a", name="b")

    def test_renamed(self):
        check_call(self, renamed, BOOK, book=BOOK, pairs=())
        check_call(self, renamed, NONE, book=NONE, pairs=())
        check_call(self, renamed, BOOK, book=BOOK, pairs=(("gas", "gas"),))
        rows = (("ann", ("food", "rent")), ("bob", ("rent", "gas", "food")), ("cid", ()))
        pairs = (("food", "gas"), ("gas", "rent"), ("rent", "food"))
        check_call(self, renamed, (BOOK[0], rows), book=BOOK, pairs=pairs)
        rows = (("ann", ("bob", "gas")), ("bob", ("gas", "zzzzzzzz", "bob")), ("cid", ()))
        pairs = (("rent", "bob"), ("food", "zzzzzzzz"))
        check_call(self, renamed, (("bob", "gas", "zzzzzzzz"), rows), book=BOOK, pairs=pairs)
        # What a is called now was free only because b goes on.
        check_call(self, renamed, (("b", "c", "d"), (("a", ("d", "b")), ("b", ("b",)))),
                   book=BOTH, pairs=(("a", "b"), ("b", "d")))

    def test_renamed_wrong(self):
        check_raises(self, renamed, NoBill("x"), book=BOOK, pairs=(("gas", "tax"), ("x", "y"), ("a", "y")))
        check_raises(self, renamed, NoBill("x"), book=BOOK, pairs=(("gas", "rent"), ("x", "y")))
        check_raises(self, renamed, NoBill("ann"), book=BOOK, pairs=(("ann", "tax"),))
        check_raises(self, renamed, Twice("rent"), book=BOOK, pairs=(("gas", "rent"),))
        check_raises(self, renamed, Twice("tax"), book=BOOK, pairs=(("rent", "tax"), ("food", "tax")))
        pairs = (("a", "z"), ("b", "z"), ("c", "y"), ("d", "y"))
        check_raises(self, renamed, Twice("y"), book=with_bill(BOTH, "d"), pairs=pairs)
        check_raises(self, renamed, NoBill("d"), book=BOTH, pairs=pairs)
        check_raises(self, renamed, NoBill("a"), book=NONE, pairs=(("a", "a"),))


if __name__ == "__main__":
    unittest.main()
