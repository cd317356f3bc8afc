"""The examples of the document, as they stand there."""

import unittest

from helping import check_examples
from ownlists import agree, books, joining, kinds, laid, sums

BOOKS = r"""
    >>> book = (("food", "gas", "rent"), (("ann", ("rent", "gas")), ("bob", ("gas", "food", "rent")), ("cid", ())))
    >>> bills(book), payers(book), list_of(book, "bob"), payers_with(book, "gas"), payers_with(book, "food")
    (('food', 'gas', 'rent'), ('ann', 'bob', 'cid'), ('gas', 'food', 'rent'), ('ann', 'bob'), ('bob',))
    >>> ahead(book, "bob", "rent"), behind(book, "ann", "rent"), behind(book, "ann", "gas"), ahead(book, "ann", "food")
    (('gas', 'food'), ('gas',), (), None)
    >>> with_payer(book, "dan", ("food",))[1][3], with_list(book, "ann", ())[1][0], without_payer(book, "ann")[1][0], with_bill(book, "tax")[0]
    (('dan', ('food',)), ('ann', ()), ('bob', ('gas', 'food', 'rent')), ('food', 'gas', 'rent', 'tax'))
    >>> struck(book, "gas"), parted(book, "gas", "heat")
    ((('food', 'rent'), (('ann', ('rent',)), ('bob', ('food', 'rent')), ('cid', ()))), (('food', 'gas', 'heat', 'rent'), (('ann', ('rent', 'gas', 'heat')), ('bob', ('gas', 'heat', 'food', 'rent')), ('cid', ()))))
    >>> renamed(book, (("gas", "rent"), ("rent", "gas")))[1][0], payers(renamed_payers(book, (("bob", "zoe"),))), is_book(book), is_book(((), ())), is_book((("a",), (("b", ("a", "a")),)))
    (('ann', ('gas', 'rent')), ('ann', 'cid', 'zoe'), True, True, False)
    >>> with_payer(book, "dan", ("gas", "tax"))
    raises NoBill(name='tax')
    >>> parted(book, "gas", "rent")
    raises Twice(name='rent')
"""

LAID = r"""
    >>> dues = (("food", 2), ("gas", 3), ("rent", 4))
    >>> first_open(book, dues, "bob"), first_open(book, (("food", 0), ("gas", 0), ("rent", 4)), "bob"), first_open(book, dues, "cid"), paid(book, dues, "bob", 4), paid(book, dues, "bob", 20), paid(book, dues, "bob", 0)
    ('gas', 'rent', None, (('gas', 3), ('food', 1)), (('gas', 3), ('food', 2), ('rent', 4)), ())
    >>> laid(book, dues, "bob", 4), laid(book, dues, "ann", 9), laid(book, dues, "cid", 5)
    (((('food', 1), ('gas', 0), ('rent', 4)), 0), ((('food', 2), ('gas', 0), ('rent', 0)), 2), ((('food', 2), ('gas', 3), ('rent', 4)), 5))
    >>> payments = (("ann", 5), ("bob", 4))
    >>> along(book, dues, payments, (0, 1)), end_of(book, dues, payments, (1, 0)), ends(book, dues, payments)
    ([(('food', 2), ('gas', 2), ('rent', 0)), (('food', 0), ('gas', 0), ('rent', 0))], (('food', 1), ('gas', 0), ('rent', 0)), [(('food', 0), ('gas', 0), ('rent', 0)), (('food', 1), ('gas', 0), ('rent', 0))])
    >>> paid_by(book, dues, payments, (0, 1)), paid_by(book, dues, payments, (1, 0)), given_back(book, dues, payments, (0, 1)), given_back(book, dues, payments, (1, 0)), sum_back(book, dues, payments, (1, 0))
    ((('ann', 'gas', 1), ('ann', 'rent', 4), ('bob', 'food', 2), ('bob', 'gas', 2)), (('ann', 'rent', 4), ('bob', 'food', 1), ('bob', 'gas', 3)), (0, 0), (1, 0), 1)
    >>> is_dues(book, dues), is_dues(book, dues[:2]), is_payments(book, payments), is_payments(book, (("dan", 1),)), is_order(payments, (1, 0)), is_order(payments, (1, 1)), ends(book, dues, ())
    (True, False, True, False, True, False, [(('food', 2), ('gas', 3), ('rent', 4))])
    >>> laid(book, dues, "dan", 3)
    raises NoPayer(name='dan')
"""

AGREE = r"""
    >>> book = (("gas", "rent", "tax"), (("ann", ("rent", "gas", "tax")), ("bob", ("gas", "tax")), ("cid", ("tax", "rent"))))
    >>> ann, bob, cid = ("rent", "gas", "tax"), ("gas", "tax"), ("tax", "rent")
    >>> rest_beside(ann, bob, "gas"), rest_beside(bob, ann, "gas"), rest_beside(ann, cid, "rent"), rest_beside(cid, ann, "rent"), rest_beside(cid, bob, "tax"), rest_beside(bob, cid, "gas")
    (('tax',), ('tax',), ('gas',), (), ('rent',), None)
    >>> agree(ann, bob), agree(ann, cid), odd_bills(ann, cid), odd_bills(bob, cid), odd_bills(ann, bob), agree((), ann), agree(("gas", "tax"), ("tax", "gas"))
    (True, False, ('rent',), ('tax',), (), True, True)
    >>> agreeing(book, "ann"), agreeing(book, "cid"), odd_pairs(book), is_good(book), is_good((book[0], book[1][:2]))
    (('bob',), (), (('ann', 'cid'), ('bob', 'cid')), False, True)
    >>> is_parting(book, ((("gas", 1), ("rent", 1), ("tax", 0)), (("ann", 1), ("cid", 1)))), is_parting(book, ((("gas", 1), ("rent", 1), ("tax", 1)), (("ann", 1), ("cid", 1)))), is_parting(book, ((("gas", 3), ("rent", 2), ("tax", 0)), (("cid", 2), ("ann", 1))))
    (True, False, True)
    >>> is_parting(book, parting(book)), parting((book[0], book[1][:2])), is_parting(book, parting_of(book, "cid", "bob")), parting_of(book, "ann", "bob")
    (True, None, True, None)
    >>> agreeing(book, "dan")
    raises NoPayer(name='dan')
"""

JOINING = r"""
    >>> book = (("gas", "rent", "tax"), (("ann", ("rent", "gas", "tax")), ("bob", ("gas", "tax")), ("cid", ("tax", "rent"))))
    >>> pair = (book[0], book[1][:2])
    >>> may_join(pair, ("tax",)), may_join(pair, ("tax", "rent")), may_join(pair, ("gas", "tax", "rent")), may_join(pair, ()), may_join(book, ("tax", "rent")), may_join(book, ("tax",))
    (True, False, False, True, False, False)
    >>> joining(pair), how_many_join(pair), joining_from(pair, ("tax",)), joining_from(pair, ("gas", "rent")), how_many_join((("a", "b"), ()))
    ([(), ('gas', 'tax'), ('rent', 'gas', 'tax'), ('tax',), ('tax', 'gas')], 5, [('tax',), ('tax', 'gas')], [], 5)
    >>> ("tax",) in having(book, "cid"), having(book, "cid") == joining(pair), longest_beginning(book, "cid"), longest_beginning(book, "ann"), longest_beginning(book, "bob"), longest_beginning(pair, "ann")
    (True, True, ('tax',), ('rent',), (), ('rent', 'gas', 'tax'))
    >>> most_kept(book), whole_kept(book), fewest_struck(book), fewest_struck(pair), most_kept(pair), whole_kept((("a",), ()))
    (('ann', 'bob'), [('ann', 'bob'), ('cid',)], ('rent',), (), ('ann', 'bob'), [()])
    >>> may_join(pair, ("tax", "car", "dog"))
    raises NoBill(name='car')
    >>> longest_beginning(book, "dan")
    raises NoPayer(name='dan')
"""

KINDS = r"""
    >>> tree = (("gas", "rent", "tax"), (("ann", ("rent", "tax")), ("bob", ("gas", "rent", "tax")), ("cy", ("tax",))))
    >>> ring, fro = (("a", "b", "c"), (("p", ("a", "b", "c")), ("q", ("b", "c", "a")), ("r", ()))), (("a", "b", "c"), (("p", ("a", "c", "b")), ("q", ("b", "c", "a"))))
    >>> heads = heads_of(tree)
    >>> heads, way_from(heads, "gas"), book_by_heads(heads, (("ann", "rent"), ("bob", "gas"), ("cy", "tax"))) == tree, book_by_heads(heads, (("ann", ""),))[1], heads_of(ring)
    ((('gas', 'rent'), ('rent', 'tax'), ('tax', '')), ('gas', 'rent', 'tax'), True, (('ann', ()),), None)
    >>> is_heads(heads), is_heads((("a", "b"), ("b", "a"))), is_heads((("a", "c"),)), circle_of(ring), circle_of(fro), row_of(fro), row_of(ring), book_round(("b", "a"), (("p", "a"),))
    (True, False, False, ('a', 'b', 'c'), None, ('a', 'c', 'b'), None, (('a', 'b'), (('p', ('a', 'b')),)))
    >>> kinds_of(tree), kinds_of(ring), kinds_of(fro), kinds_of((("a", "b"), (("p", ("b", "a")), ("q", ())))), with_rest(fro, ("e", "d"))
    (('forest',), ('circle',), ('backwards',), ('backwards', 'circle', 'forest'), (('a', 'b', 'c', 'd', 'e'), (('p', ('a', 'c', 'b', 'e', 'd')), ('q', ('b', 'c', 'a', 'e', 'd')))))
    >>> [how_many_tables(number) for number in range(1, 6)], how_many_good_tables(("a", "b", "c")), nth_good_table(("a", "b", "c"), 0), number_of_good_table((("a", "c", "b"), ("b", "c", "a"), ("c", "b", "a")))
    ([1, 1, 8, 1296, 7962624], 8, (('a', 'b', 'c'), ('b', 'a', 'c'), ('c', 'a', 'b')), 7)
    >>> is_table(("a", "b"), (("a", "b"), ("b", "a"))), is_table(("a", "b"), (("b", "a"), ("a", "b"))), book_of_table((("a", "b"), ("b", "a")))
    (True, False, (('a', 'b'), (('a', ('a', 'b')), ('b', ('b', 'a')))))
    >>> with_rest(tree, ("late", "tax"))
    raises Twice(name='tax')
    >>> way_from(heads, "late")
    raises NoBill(name='late')
"""

SUMS = r"""
    >>> owed, paid, none = (("gas", 30), ("rent", 50), ("tax", 20)), (("ann", 40), ("bob", 45), ("cy", 5)), (("ann", 0), ("bob", 0), ("cy", 0))
    >>> open_by(tree, owed, paid), back_by(tree, owed, paid), open_by(tree, owed, (("ann", 10 ** 40), ("bob", 0), ("cy", 0))), back_by(tree, owed, (("ann", 10 ** 40), ("bob", 0), ("cy", 0))) == 10 ** 40 - 70
    ((('gas', 0), ('rent', 0), ('tax', 10)), 0, (('gas', 30), ('rent', 0), ('tax', 0)), True)
    >>> [next_paid(tree, owed, paid, payer) for payer in ("ann", "bob", "cy")], [next_paid(tree, owed, none, payer) for payer in ("ann", "bob", "cy")], [next_due(tree, owed, paid, bill) for bill in ("gas", "rent", "tax")]
    (['tax', 'tax', 'tax'], ['rent', 'gas', 'tax'], ['tax', 'tax', 'tax'])
    >>> least_to_pay(tree, owed, paid, "ann", "tax"), least_to_pay(tree, owed, paid, "cy", "gas"), [least_to_pay(tree, owed, none, payer, "tax") for payer in ("ann", "bob", "cy")], least_to_pay(tree, owed, none, "ann", "gas")
    (10, 0, [70, 100, 20], None)
    >>> low, high = (("ann", 40), ("bob", 45), ("cy", 0)), (("ann", 40), ("bob", 60), ("cy", 10))
    >>> open_spans(tree, owed, low, high), back_span(tree, owed, low, high)
    ((('gas', 0, 0), ('rent', 0, 0), ('tax', 0, 15)), (0, 10))
    >>> odd = (("a", "b"), (("p", ("a",)), ("q", ("a", "b"))))
    >>> open_by(odd, (("a", 1), ("b", 1)), (("p", 1), ("q", 1)))
    raises NotGood(one='p', other='q')
    >>> next_paid(odd, (("a", 1), ("b", 1)), (("p", 1), ("q", 1)), "cy")
    raises NoPayer(name='cy')
"""


def public(*modules):
    """The names that an example may use of these modules."""
    return {name: value for module in modules for name, value in vars(module).items() if not name.startswith("_")}


def assigned(text, *names):
    """The lines of an example that assign to these names, for an example further below that uses them."""
    return "\n".join(line for line in text.split("\n") if line.strip().split(" ")[1:2] in [[name] for name in names])


class Examples(unittest.TestCase):

    def test_books_of_lists(self):
        check_examples(self, BOOKS, public(books))

    def test_money_laid(self):
        check_examples(self, assigned(BOOKS, "book") + LAID, public(books, laid))

    def test_lists_that_agree(self):
        check_examples(self, AGREE, public(agree))

    def test_lists_that_may_join(self):
        check_examples(self, JOINING, public(joining))

    def test_kinds_of_good_books(self):
        check_examples(self, KINDS, public(kinds))

    def test_sums_in_good_books(self):
        check_examples(self, assigned(KINDS, "tree") + SUMS, public(sums))


if __name__ == "__main__":
    unittest.main()
