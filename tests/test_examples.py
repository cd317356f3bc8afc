"""The examples of the document, as they stand there."""

import unittest

from helping import check_examples
from ownlists import books, laid

BOOKS = r"""
    >>> book = (("food", "gas", "rent"), (("ann", ("rent", "gas")), ("bob", ("gas", "food", "rent")), ("cid", ())))
    >>> bills(book), payers(book), list_of(book, "bob"), payers_with(book, "gas"), payers_with(book, "food")
    (('food', 'gas', 'rent'), ('ann', 'bob', 'cid'), ('gas', 'food', 'rent'), ('ann', 'bob'), ('bob',))
    >>> ahead(book, "bob", "rent"), behind(book, "ann", "rent"), behind(book, "ann", "gas"), ahead(book, "ann", "food")
    (('gas', 'food'), ('gas',), (), None)
    >>> with_payer(book, "dan", ("food",))[1][3], with_list(book, "ann", ())[1][0], without_payer(book, "ann")[1][0], with_bill(book, "tax")[0]
    (('dan', ('food',)), ('ann', ()), ('bob', ('gas', 'food', 'rent')), ('food', 'gas', 'rent', 'tax'))
    >>> struck(book, "gas"), parted(book, "gas", "heat")
    ((('food', 'rent'), (('ann', ('rent',)), ('bob', ('food', 'rent')), ('cid', ()))), (('food', 'gas', 'heat', 'rent'), (('ann', ('rent', 'gas', 'heat')), ('bob', ('gas', 'heat', 'food', 'rent')), ('cid', ()))))
    >>> renamed(book, (("gas", "rent"), ("rent", "gas")))[1][0], payers(renamed_payers(book, (("bob", "zoe"),))), is_book(book), is_book(((), ())), is_book((("a",), (("b", ("a", "a")),)))
    (('ann', ('gas', 'rent')), ('ann', 'cid', 'zoe'), True, True, False)
    >>> with_payer(book, "dan", ("gas", "tax"))
    raises NoBill(name='tax')
    >>> parted(book, "gas", "rent")
    raises Twice(name='rent')
"""

LAID = r"""
    >>> dues = (("food", 2), ("gas", 3), ("rent", 4))
    >>> first_open(book, dues, "bob"), first_open(book, (("food", 0), ("gas", 0), ("rent", 4)), "bob"), first_open(book, dues, "cid"), paid(book, dues, "bob", 4), paid(book, dues, "bob", 20), paid(book, dues, "bob", 0)
    ('gas', 'rent', None, (('gas', 3), ('food', 1)), (('gas', 3), ('food', 2), ('rent', 4)), ())
    >>> laid(book, dues, "bob", 4), laid(book, dues, "ann", 9), laid(book, dues, "cid", 5)
    (((('food', 1), ('gas', 0), ('rent', 4)), 0), ((('food', 2), ('gas', 0), ('rent', 0)), 2), ((('food', 2), ('gas', 3), ('rent', 4)), 5))
    >>> payments = (("ann", 5), ("bob", 4))
    >>> along(book, dues, payments, (0, 1)), end_of(book, dues, payments, (1, 0)), ends(book, dues, payments)
    ([(('food', 2), ('gas', 2), ('rent', 0)), (('food', 0), ('gas', 0), ('rent', 0))], (('food', 1), ('gas', 0), ('rent', 0)), [(('food', 0), ('gas', 0), ('rent', 0)), (('food', 1), ('gas', 0), ('rent', 0))])
    >>> paid_by(book, dues, payments, (0, 1)), paid_by(book, dues, payments, (1, 0)), given_back(book, dues, payments, (0, 1)), given_back(book, dues, payments, (1, 0)), sum_back(book, dues, payments, (1, 0))
    ((('ann', 'gas', 1), ('ann', 'rent', 4), ('bob', 'food', 2), ('bob', 'gas', 2)), (('ann', 'rent', 4), ('bob', 'food', 1), ('bob', 'gas', 3)), (0, 0), (1, 0), 1)
    >>> is_dues(book, dues), is_dues(book, dues[:2]), is_payments(book, payments), is_payments(book, (("dan", 1),)), is_order(payments, (1, 0)), is_order(payments, (1, 1)), ends(book, dues, ())
    (True, False, True, False, True, False, [(('food', 2), ('gas', 3), ('rent', 4))])
    >>> laid(book, dues, "dan", 3)
    raises NoPayer(name='dan')
"""


def public(module):
    """The names that an example may use of a module."""
    return {name: value for name, value in vars(module).items() if not name.startswith("_")}


class Examples(unittest.TestCase):

    def test_books_of_lists(self):
        check_examples(self, BOOKS, public(books))

    def test_money_laid(self):
        names = public(books)
        names.update(public(laid))
        first = BOOKS.strip().split("\n")[0]
        check_examples(self, first + LAID, names)


if __name__ == "__main__":
    unittest.main()
