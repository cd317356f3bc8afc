"""The examples of the document, as they stand there."""

import unittest

from helping import check_examples
from ownlists import agree, board, books, changed, could, counts, desk, joining, kinds, laid, orders, sums, texts, told

BOOKS = r"""
    >>> book = (("food", "gas", "rent"), (("ann", ("rent", "gas")), ("bob", ("gas", "food", "rent")), ("cid", ())))
    >>> bills(book), payers(book), list_of(book, "bob"), payers_with(book, "gas"), payers_with(book, "food")
    (('food', 'gas', 'rent'), ('ann', 'bob', 'cid'), ('gas', 'food', 'rent'), ('ann', 'bob'), ('bob',))
    >>> ahead(book, "bob", "rent"), behind(book, "ann", "rent"), behind(book, "ann", "gas"), ahead(book, "ann", "food")
    (('gas', 'food'), ('gas',), (), None)
    >>> with_payer(book, "dan", ("food",))[1][3], with_list(book, "ann", ())[1][0], without_payer(book, "ann")[1][0], with_bill(book, "tax")[0]
    (('dan', ('food',)), ('ann', ()), ('bob', ('gas', 'food', 'rent')), ('food', 'gas', 'rent', 'tax'))
    >>> struck(book, "gas"), parted(book, "gas", "heat")
    ((('food', 'rent'), (('ann', ('rent',)), ('bob', ('food', 'rent')), ('cid', ()))), (('food', 'gas', 'heat', 'rent'), (('ann', ('rent', 'gas', 'heat')), ('bob', ('gas', 'heat', 'food', 'rent')), ('cid', ()))))
    >>> renamed(book, (("gas", "rent"), ("rent", "gas")))[1][0], payers(renamed_payers(book, (("bob", "zoe"),))), is_book(book), is_book(((), ())), is_book((("a",), (("b", ("a", "a")),)))
    (('ann', ('gas', 'rent')), ('ann', 'cid', 'zoe'), True, True, False)
    >>> with_payer(book, "dan", ("gas", "tax"))
    raises NoBill(name='tax')
    >>> parted(book, "gas", "rent")
    raises Twice(name='rent')
"""

LAID = r"""
    >>> dues = (("food", 2), ("gas", 3), ("rent", 4))
    >>> first_open(book, dues, "bob"), first_open(book, (("food", 0), ("gas", 0), ("rent", 4)), "bob"), first_open(book, dues, "cid"), paid(book, dues, "bob", 4), paid(book, dues, "bob", 20), paid(book, dues, "bob", 0)
    ('gas', 'rent', None, (('gas', 3), ('food', 1)), (('gas', 3), ('food', 2), ('rent', 4)), ())
    >>> laid(book, dues, "bob", 4), laid(book, dues, "ann", 9), laid(book, dues, "cid", 5)
    (((('food', 1), ('gas', 0), ('rent', 4)), 0), ((('food', 2), ('gas', 0), ('rent', 0)), 2), ((('food', 2), ('gas', 3), ('rent', 4)), 5))
    >>> payments = (("ann", 5), ("bob", 4))
    >>> along(book, dues, payments, (0, 1)), end_of(book, dues, payments, (1, 0)), ends(book, dues, payments)
    ([(('food', 2), ('gas', 2), ('rent', 0)), (('food', 0), ('gas', 0), ('rent', 0))], (('food', 1), ('gas', 0), ('rent', 0)), [(('food', 0), ('gas', 0), ('rent', 0)), (('food', 1), ('gas', 0), ('rent', 0))])
    >>> paid_by(book, dues, payments, (0, 1)), paid_by(book, dues, payments, (1, 0)), given_back(book, dues, payments, (0, 1)), given_back(book, dues, payments, (1, 0)), sum_back(book, dues, payments, (1, 0))
    ((('ann', 'gas', 1), ('ann', 'rent', 4), ('bob', 'food', 2), ('bob', 'gas', 2)), (('ann', 'rent', 4), ('bob', 'food', 1), ('bob', 'gas', 3)), (0, 0), (1, 0), 1)
    >>> is_dues(book, dues), is_dues(book, dues[:2]), is_payments(book, payments), is_payments(book, (("dan", 1),)), is_order(payments, (1, 0)), is_order(payments, (1, 1)), ends(book, dues, ())
    (True, False, True, False, True, False, [(('food', 2), ('gas', 3), ('rent', 4))])
    >>> laid(book, dues, "dan", 3)
    raises NoPayer(name='dan')
"""

AGREE = r"""
    >>> book = (("gas", "rent", "tax"), (("ann", ("rent", "gas", "tax")), ("bob", ("gas", "tax")), ("cid", ("tax", "rent"))))
    >>> ann, bob, cid = ("rent", "gas", "tax"), ("gas", "tax"), ("tax", "rent")
    >>> rest_beside(ann, bob, "gas"), rest_beside(bob, ann, "gas"), rest_beside(ann, cid, "rent"), rest_beside(cid, ann, "rent"), rest_beside(cid, bob, "tax"), rest_beside(bob, cid, "gas")
    (('tax',), ('tax',), ('gas',), (), ('rent',), None)
    >>> agree(ann, bob), agree(ann, cid), odd_bills(ann, cid), odd_bills(bob, cid), odd_bills(ann, bob), agree((), ann), agree(("gas", "tax"), ("tax", "gas"))
    (True, False, ('rent',), ('tax',), (), True, True)
    >>> agreeing(book, "ann"), agreeing(book, "cid"), odd_pairs(book), is_good(book), is_good((book[0], book[1][:2]))
    (('bob',), (), (('ann', 'cid'), ('bob', 'cid')), False, True)
    >>> is_parting(book, ((("gas", 1), ("rent", 1), ("tax", 0)), (("ann", 1), ("cid", 1)))), is_parting(book, ((("gas", 1), ("rent", 1), ("tax", 1)), (("ann", 1), ("cid", 1)))), is_parting(book, ((("gas", 3), ("rent", 2), ("tax", 0)), (("cid", 2), ("ann", 1))))
    (True, False, True)
    >>> is_parting(book, parting(book)), parting((book[0], book[1][:2])), is_parting(book, parting_of(book, "cid", "bob")), parting_of(book, "ann", "bob")
    (True, None, True, None)
    >>> agreeing(book, "dan")
    raises NoPayer(name='dan')
"""

JOINING = r"""
    >>> book = (("gas", "rent", "tax"), (("ann", ("rent", "gas", "tax")), ("bob", ("gas", "tax")), ("cid", ("tax", "rent"))))
    >>> pair = (book[0], book[1][:2])
    >>> may_join(pair, ("tax",)), may_join(pair, ("tax", "rent")), may_join(pair, ("gas", "tax", "rent")), may_join(pair, ()), may_join(book, ("tax", "rent")), may_join(book, ("tax",))
    (True, False, False, True, False, False)
    >>> joining(pair), how_many_join(pair), joining_from(pair, ("tax",)), joining_from(pair, ("gas", "rent")), how_many_join((("a", "b"), ()))
    ([(), ('gas', 'tax'), ('rent', 'gas', 'tax'), ('tax',), ('tax', 'gas')], 5, [('tax',), ('tax', 'gas')], [], 5)
    >>> ("tax",) in having(book, "cid"), having(book, "cid") == joining(pair), longest_beginning(book, "cid"), longest_beginning(book, "ann"), longest_beginning(book, "bob"), longest_beginning(pair, "ann")
    (True, True, ('tax',), ('rent',), (), ('rent', 'gas', 'tax'))
    >>> most_kept(book), whole_kept(book), fewest_struck(book), fewest_struck(pair), most_kept(pair), whole_kept((("a",), ()))
    (('ann', 'bob'), [('ann', 'bob'), ('cid',)], ('rent',), (), ('ann', 'bob'), [()])
    >>> may_join(pair, ("tax", "car", "dog"))
    raises NoBill(name='car')
    >>> longest_beginning(book, "dan")
    raises NoPayer(name='dan')
"""

KINDS = r"""
    >>> tree = (("gas", "rent", "tax"), (("ann", ("rent", "tax")), ("bob", ("gas", "rent", "tax")), ("cy", ("tax",))))
    >>> ring, fro = (("a", "b", "c"), (("p", ("a", "b", "c")), ("q", ("b", "c", "a")), ("r", ()))), (("a", "b", "c"), (("p", ("a", "c", "b")), ("q", ("b", "c", "a"))))
    >>> heads = heads_of(tree)
    >>> heads, way_from(heads, "gas"), book_by_heads(heads, (("ann", "rent"), ("bob", "gas"), ("cy", "tax"))) == tree, book_by_heads(heads, (("ann", ""),))[1], heads_of(ring)
    ((('gas', 'rent'), ('rent', 'tax'), ('tax', '')), ('gas', 'rent', 'tax'), True, (('ann', ()),), None)
    >>> is_heads(heads), is_heads((("a", "b"), ("b", "a"))), is_heads((("a", "c"),)), circle_of(ring), circle_of(fro), row_of(fro), row_of(ring), book_round(("b", "a"), (("p", "a"),))
    (True, False, False, ('a', 'b', 'c'), None, ('a', 'c', 'b'), None, (('a', 'b'), (('p', ('a', 'b')),)))
    >>> kinds_of(tree), kinds_of(ring), kinds_of(fro), kinds_of((("a", "b"), (("p", ("b", "a")), ("q", ())))), with_rest(fro, ("e", "d"))
    (('forest',), ('circle',), ('backwards',), ('backwards', 'circle', 'forest'), (('a', 'b', 'c', 'd', 'e'), (('p', ('a', 'c', 'b', 'e', 'd')), ('q', ('b', 'c', 'a', 'e', 'd')))))
    >>> [how_many_tables(number) for number in range(1, 6)], how_many_good_tables(("a", "b", "c")), nth_good_table(("a", "b", "c"), 0), number_of_good_table((("a", "c", "b"), ("b", "c", "a"), ("c", "b", "a")))
    ([1, 1, 8, 1296, 7962624], 8, (('a', 'b', 'c'), ('b', 'a', 'c'), ('c', 'a', 'b')), 7)
    >>> is_table(("a", "b"), (("a", "b"), ("b", "a"))), is_table(("a", "b"), (("b", "a"), ("a", "b"))), book_of_table((("a", "b"), ("b", "a")))
    (True, False, (('a', 'b'), (('a', ('a', 'b')), ('b', ('b', 'a')))))
    >>> with_rest(tree, ("late", "tax"))
    raises Twice(name='tax')
    >>> way_from(heads, "late")
    raises NoBill(name='late')
"""

SUMS = r"""
    >>> owed, paid, none = (("gas", 30), ("rent", 50), ("tax", 20)), (("ann", 40), ("bob", 45), ("cy", 5)), (("ann", 0), ("bob", 0), ("cy", 0))
    >>> open_by(tree, owed, paid), back_by(tree, owed, paid), open_by(tree, owed, (("ann", 10 ** 40), ("bob", 0), ("cy", 0))), back_by(tree, owed, (("ann", 10 ** 40), ("bob", 0), ("cy", 0))) == 10 ** 40 - 70
    ((('gas', 0), ('rent', 0), ('tax', 10)), 0, (('gas', 30), ('rent', 0), ('tax', 0)), True)
    >>> [next_paid(tree, owed, paid, payer) for payer in ("ann", "bob", "cy")], [next_paid(tree, owed, none, payer) for payer in ("ann", "bob", "cy")], [next_due(tree, owed, paid, bill) for bill in ("gas", "rent", "tax")]
    (['tax', 'tax', 'tax'], ['rent', 'gas', 'tax'], ['tax', 'tax', 'tax'])
    >>> least_to_pay(tree, owed, paid, "ann", "tax"), least_to_pay(tree, owed, paid, "cy", "gas"), [least_to_pay(tree, owed, none, payer, "tax") for payer in ("ann", "bob", "cy")], least_to_pay(tree, owed, none, "ann", "gas")
    (10, 0, [70, 100, 20], None)
    >>> low, high = (("ann", 40), ("bob", 45), ("cy", 0)), (("ann", 40), ("bob", 60), ("cy", 10))
    >>> open_spans(tree, owed, low, high), back_span(tree, owed, low, high)
    ((('gas', 0, 0), ('rent', 0, 0), ('tax', 0, 15)), (0, 10))
    >>> odd = (("a", "b"), (("p", ("a",)), ("q", ("a", "b"))))
    >>> open_by(odd, (("a", 1), ("b", 1)), (("p", 1), ("q", 1)))
    raises NotGood(one='p', other='q')
    >>> next_paid(odd, (("a", 1), ("b", 1)), (("p", 1), ("q", 1)), "cy")
    raises NoPayer(name='cy')
"""

COUNTS = r"""
    >>> way = (("a", "b", "c"), (("p", ("a", "b", "c")), ("q", ("b", "c")), ("r", ("c",))))
    >>> ring = (("a", "b", "c"), (("p", ("a", "b", "c")), ("q", ("b", "c", "a")), ("r", ("c", "a", "b"))))
    >>> ones, none = (("a", 1), ("b", 1), ("c", 1)), (("a", 0), ("b", 0), ("c", 0))
    >>> after_ones(way, ones, ("q", "q")), after_ones(way, ones, ("r", "r")), after_ones(ring, ones, ("r", "r"))
    ((('a', 1), ('b', 0), ('c', 0)), (('a', 1), ('b', 1), ('c', 0)), (('a', 0), ('b', 1), ('c', 0)))
    >>> opens_after(way, ones, 2)
    (((('a', 0), ('b', 0), ('c', 1)), 3), ((('a', 0), ('b', 1), ('c', 0)), 2), ((('a', 1), ('b', 0), ('c', 0)), 3), ((('a', 1), ('b', 1), ('c', 0)), 1))
    >>> how_many_pay_all(way, ones, 3), how_many_pay_all(ring, ones, 3), how_many_without_back(way, ones, 2), how_many_rows(way, ones, 2, (("a", 0), ("b", 1), ("c", 0))), how_many_pay_all(way, ones, 2)
    (16, 27, 8, 2, 0)
    >>> nth_row(way, ones, 3, none, 0), nth_row(way, ones, 3, none, 12), number_of_row(way, ones, ("r", "q", "p")), how_many_pay_all(ring, ones, 60) == 3 ** 60, opens_after(way, ones, 0)
    (('p', 'p', 'p'), ('q', 'r', 'p'), 15, True, (((('a', 1), ('b', 1), ('c', 1)), 1),))
    >>> nth_row(way, ones, 3, none, 16)
    raises NoNumber(number=16)
    >>> after_ones(way, ones, ("p", "s"))
    raises NoPayer(name='s')
"""

COULD = r"""
    >>> home = (("a", "b", "c", "d"), (("ann", ("a", "b")), ("bob", ("c", "b", "d"))))
    >>> due, late = (("a", 2), ("b", 3), ("c", 0), ("d", 1)), (("a", 2), ("b", 3), ("c", 1), ("d", 1))
    >>> payable(home, due), rounds(home, due), rounds(home, late), whole_sets(home, due), how_many_opens(home, due)
    (('a', 'b', 'd'), (('a', 'b'), ('d',)), (('a', 'c'), ('b',), ('d',)), [(), ('a',), ('a', 'b'), ('a', 'b', 'd'), ('b',), ('b', 'd')], 15)
    >>> [can_stand(home, due, (("a", one), ("b", two), ("c", 0), ("d", last))) for one, two, last in ((1, 3, 1), (2, 2, 0), (2, 0, 1), (0, 0, 0), (1, 2, 1), (3, 3, 1))]
    [True, False, True, True, True, False]
    >>> [least_payers(home, due, (("a", one), ("b", two), ("c", 0), ("d", last))) for one, two, last in ((2, 0, 1), (0, 0, 1), (1, 2, 1), (2, 3, 1), (2, 2, 0))]
    [('bob',), ('ann',), ('ann', 'bob'), (), None]
    >>> least_ahead(home, due, "b"), least_ahead(home, late, "b"), least_ahead(home, late, "d"), least_ahead(home, due, "c"), always_ahead(home, late, "b"), always_ahead(home, late, "d"), always_ahead(home, due, "c")
    ([()], [('a',), ('c',)], [('b', 'c')], [], (), ('b', 'c'), None)
    >>> is_payments_for(home, due, (("a", 1), ("b", 3), ("c", 0), ("d", 1)), (("ann", 1),)), is_payments_for(home, due, (("a", 1), ("b", 3), ("c", 0), ("d", 1)), (("bob", 1),)), payments_for(home, due, (("a", 2), ("b", 2), ("c", 0), ("d", 0)))
    (True, False, None)
    >>> can_be_whole(home, late, ("b", "d")), can_be_whole(home, late, ("b", "c", "d")), can_be_whole(home, due, ("c",)), how_many_opens(home, (("a", 10 ** 40), ("b", 1), ("c", 0), ("d", 0)))
    (False, True, False, 20000000000000000000000000000000000000002)
    >>> can_be_whole(home, due, ("b", "q"))
    raises NoBill(name='q')
"""

ORDERS = r"""
    >>> book = (("gas", "rent", "tax"), (("ann", ("rent", "gas")), ("bob", ("rent",)), ("cid", ("tax", "gas"))))
    >>> dues, payments = (("gas", 1), ("rent", 1), ("tax", 1)), (("ann", 1), ("bob", 1))
    >>> orders_by_ends(book, dues, payments)
    (((('gas', 0), ('rent', 0), ('tax', 1)), 1), ((('gas', 1), ('rent', 0), ('tax', 1)), 1))
    >>> how_many_orders_to(book, dues, payments, dues), least_order_to(book, dues, payments, dues), least_order_to(book, dues, payments, (("gas", 0), ("rent", 0), ("tax", 1))), has_one_end(book, dues, payments), has_one_end(book, dues, payments[:1] * 2)
    (0, None, (1, 0), False, True)
    >>> is_parting_orders(book, dues, payments, ((0, 1), (1, 0))), is_parting_orders(book, dues, payments, parting_orders(book, dues, payments)), parting_orders(book, dues, payments[1:]), is_parting_orders(book, dues, payments, ((0, 1), (0, 1)))
    (True, True, None, False)
    >>> sure_open(book, dues, payments), open_range(book, dues, payments, "gas"), surely_whole(book, dues, payments), maybe_whole(book, dues, payments), back_range(book, dues, payments), paid_range(book, dues, payments, 0, "gas"), paid_range(book, dues, payments, 1, "rent"), paid_range(book, dues, payments, 1, "tax")
    ((('rent', 0), ('tax', 1)), (0, 1), ('rent',), ('gas', 'rent'), (0, 1), (0, 1), (0, 1), (0, 0))
    >>> ends_with(book, dues, payments, ((1, 0),)), ends_with(book, dues, payments, ((0, 1), (1, 0))), len(ends_with(book, dues, payments, ()))
    ([(('gas', 0), ('rent', 0), ('tax', 1))], [], 2)
    >>> more = payments + (("cid", 2), ("ann", 3))
    >>> has_one_end(book, dues, more), back_range(book, dues, more), orders_by_ends(book, dues, more)
    (True, (4, 4), (((('gas', 0), ('rent', 0), ('tax', 0)), 24),))
    >>> paid_range(book, dues, payments, 2, "gas")
    raises NoNumber(number=2)
    >>> open_range(book, dues, payments, "water")
    raises NoBill(name='water')
"""

TOLD = r"""
    >>> names, twos = ("gas", "rent", "tax"), (("gas", 2), ("rent", 2), ("tax", 2))
    >>> readings = ((twos, 3, (("gas", 1), ("rent", 0), ("tax", 2))),)
    >>> fits(("rent", "gas"), readings), fits(("gas", "rent"), readings), lists_fitting(names, readings), how_many_fitting(names, ()), first_unfit(names, readings)
    (True, False, [('rent', 'gas'), ('rent', 'gas', 'tax')], 16, None)
    >>> surely_ahead(names, readings), surely_in(names, readings), surely_out(names, readings), surely_out(names, ((twos, 7, (("gas", 2), ("rent", 0), ("tax", 2))),))
    ((('rent', 'gas'),), ('gas', 'rent'), (), ('gas', 'tax'))
    >>> sure_left(names, readings, twos, 4), sure_left(names, readings, twos, 5), is_open_ask(names, readings, (twos, 5)), is_open_ask(names, readings, (twos, 4)), is_open_ask(names, readings, open_ask(names, readings))
    ((('gas', 0), ('rent', 0), ('tax', 2)), None, True, False, True)
    >>> clash = readings + ((twos, 1, (("gas", 1), ("rent", 2), ("tax", 2))),)
    >>> lists_fitting(names, clash), first_unfit(names, clash), surely_in(names, clash), sure_left(names, clash, twos, 4), open_ask(names, clash), open_ask(("gas",), (((("gas", 2),), 1, (("gas", 1),)),))
    ([], 1, None, None, None, None)
    >>> told_back(names, lambda dues, amount: laid((names, (("ann", ("rent", "gas")),)), dues, "ann", amount)[0]), is_readings(names, readings), is_readings(names, ((twos, 3, twos[1:]),)), is_readings(("gas",), readings)
    (('rent', 'gas'), True, False, False)
"""

CHANGED = r"""
    >>> book = (("food", "gas", "rent"), (("ann", ("rent", "gas")), ("bob", ("gas", "rent")), ("cid", ("rent", "food"))))
    >>> good_exchanges(book, "ann"), good_outs(book, "cid"), good_puts(book, "ann", "food"), good_outs(book, "ann"), nearest_lists(book, "cid"), nearest_lists(book, "ann")
    ((), ('rent',), (), (), (1, [('food',)]), None)
    >>> tidy = (("food", "gas", "rent"), (("ann", ("rent", "gas")), ("bob", ("gas", "rent")), ("cid", ("rent",))))
    >>> good_puts(tidy, "cid", "gas"), good_exchanges(tidy, "ann"), nearest_lists(tidy, "cid"), good_puts(tidy, "cid", "rent")
    ((0, 1), (0,), (1, [(), ('gas', 'rent'), ('rent', 'gas')]), ())
    >>> fewest_steps(("a", "b", "c"), ("c", "a", "b")), fewest_steps((), ("a", "b")), fewest_steps(("a", "b"), ("b", "a")), unlike_payers(book, tidy), is_parting_payment(book, tidy, parting_payment(book, tidy))
    (2, 2, 2, ('cid',), True)
    >>> is_parting_payment(book, tidy, ((("food", 1), ("gas", 0), ("rent", 0)), "cid", 1)), is_parting_payment(book, tidy, ((("food", 0), ("gas", 1), ("rent", 1)), "cid", 5)), parting_payment(tidy, tidy)
    (True, False, None)
    >>> unlike_payers(book, (("food", "gas", "rent"), ()))
    raises OtherBook()
"""

BOARD = r"""
    >>> board = Board(("rent", "gas", "food"))
    >>> board["ann"], board["bob"], board["cid"] = ("rent", "gas"), ("rent",), ("gas", "food")
    >>> board.good(), board.odd(), board.above("bob"), board.above("ann"), board.effect("cid", ("gas",)), board.effect("cid", ("food", "gas")), board.effect("bob", ("rent", "food"))
    (False, ('ann', 'bob', 'cid'), ('ann',), (), 'less', 'either', 'more')
    >>> board.due("rent", 5), board.due("gas", 10 ** 40), board.shares("ann", 8), board.pay("ann", 8), board.owed == (("food", 0), ("gas", 10 ** 40 - 3), ("rent", 0)), board.pay("bob", 2), board.back
    (None, None, (('rent', 5), ('gas', 3)), None, True, None, 2)
    >>> board += ("bob", "gas")
    >>> board["bob"], board.doubled(), board.odd(), board.undo(), board["bob"], board.undo(), board.back
    (('rent', 'gas'), ('bob',), ('ann', 'bob', 'cid'), True, ('rent',), True, 0)
    >>> board.frame("bob", (), ("rent", "gas")), board.frames
    (None, (('bob', (), ('rent', 'gas')),))
    >>> board.attempt((("due", "food", 1), ("add", "bob", "food")))
    raises Stopped(number=1, raised='Outside', value='bob')
    >>> board.effect("ann", ("gas", "tax", "gas"))
    raises NoBill(name='tax')
"""

TEXTS = r"""
    >>> row_text(("rent", "gas")), row_in("-"), row_in("rent gas"), book_text((("a", "b"), (("x", ("b", "a")), ("y", ())))), book_in("a b; x b a; y -") == (("a", "b"), (("x", ("b", "a")), ("y", ()))), book_in("-")
    ('rent gas', (), ('rent', 'gas'), 'a b; x b a; y -', True, ((), ()))
    >>> pairs_text((("gas", 3), ("rent", 0))), pairs_in("gas 3; rent 0"), pairs_in("-")
    ('gas 3; rent 0', (('gas', 3), ('rent', 0)), ())
    >>> row_in("a a")
    raises BadText()
    >>> pairs_in("b 1; a 1")
    raises BadText()
    >>> made = board_in("bills gas rent\nopen gas 0; rent 12\nback 3\nann: rent gas\nbob: -\nann from rent .. *\nend")
    >>> made.bills, made.owed, made.back, made["ann"], made["bob"], made.frames, made.undo(), board_text(Board(()))
    (('gas', 'rent'), (('gas', 0), ('rent', 12)), 3, ('rent', 'gas'), (), (('ann', ('rent',), None),), False, 'bills -\nopen -\nback 0\nend')
    >>> board_in("bills gas rent\nopen gas 1\nback 0\nend")
    raises BadLine(number=1)
    >>> answers("bills food gas rent\nset ann rent gas\nset bob rent\nset cid gas food\ngood\nodd\nabove bob\ndue rent 5\ndue gas 7\nshares ann 8\npay ann 8\nopen\npay bob 2\nback\nadd bob gas\ndoubled\nundo\nundo\nback\nframe bob from - .. rent gas\nadd bob food\nadd bob tax\nset ann tax\npay zed 1\nlift ann\neffect cid gas\nadd cid food\nleave ann\ngood\nodd")
    ['done', 'done', 'done', 'done', 'no', 'ann bob cid', 'ann', 'done', 'done', 'rent 5; gas 3', 'done', 'food 0; gas 4; rent 0', 'done', '2', 'done', 'bob', 'yes', 'yes', '0', 'done', 'refused Outside', 'refused NoBill', 'refused NoBill', 'refused NoPayer', 'refused NoFrame', 'less', 'done', 'done', 'yes', '-']
    >>> answers(""), answers("bills -\nundo\nopen\nset x -\ngood\npay x 4\nback\nshares x 1")
    ([], ['done', 'no', '-', 'done', 'yes', 'done', '4', '-'])
    >>> answers("bills b a")
    raises BadLine(number=0)
"""


def public(*modules):
    """The names that an example may use of these modules."""
    return {name: value for module in modules for name, value in vars(module).items() if not name.startswith("_")}


def assigned(text, *names):
    """The lines of an example that assign to these names, for an example further below that uses them."""
    return "\n".join(line for line in text.split("\n") if line.strip().split(" ")[1:2] in [[name] for name in names])


class Examples(unittest.TestCase):

    def test_books_of_lists(self):
        check_examples(self, BOOKS, public(books))

    def test_money_laid(self):
        check_examples(self, assigned(BOOKS, "book") + LAID, public(books, laid))

    def test_lists_that_agree(self):
        check_examples(self, AGREE, public(agree))

    def test_lists_that_may_join(self):
        check_examples(self, JOINING, public(joining))

    def test_kinds_of_good_books(self):
        check_examples(self, KINDS, public(kinds))

    def test_sums_in_good_books(self):
        check_examples(self, assigned(KINDS, "tree") + SUMS, public(sums))

    def test_payments_of_one_counted(self):
        check_examples(self, COUNTS, public(counts))

    def test_what_can_stand_open(self):
        check_examples(self, COULD, public(could))

    def test_what_hangs_on_the_order(self):
        check_examples(self, ORDERS, public(orders))

    def test_lists_told_back(self):
        check_examples(self, TOLD, public(laid, told))

    def test_lists_changed(self):
        check_examples(self, CHANGED, public(changed))

    def test_a_board(self):
        check_examples(self, BOARD, public(board))

    def test_texts_and_a_desk(self):
        check_examples(self, TEXTS, public(board, texts, desk))


if __name__ == "__main__":
    unittest.main()
