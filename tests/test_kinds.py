"""Kinds of good books: ordinary inputs, edges, wrong inputs, and all small cases beside a slow second way."""

import itertools
import math
import unittest

from helping import all_alike, books_of, check_call, check_raises, check_same, rows_of
from ownlists.agree import is_good
from ownlists.books import is_book
from ownlists.errors import NoBill, NoNumber, Twice
from ownlists.kinds import book_by_heads, book_of_table, book_round, circle_of, heads_of, how_many_good_tables
from ownlists.kinds import how_many_tables, is_heads, is_table, kinds_of, nth_good_table, number_of_good_table
from ownlists.kinds import row_of, way_from, with_rest

NONE = ((), ())
TREE = (("gas", "rent", "tax"), (("ann", ("rent", "tax")), ("bob", ("gas", "rent", "tax")), ("cy", ("tax",))))
RING = (("a", "b", "c"), (("p", ("a", "b", "c")), ("q", ("b", "c", "a")), ("r", ())))
FRO = (("a", "b", "c"), (("p", ("a", "c", "b")), ("q", ("b", "c", "a"))))
ONLY_BILLS = (("a", "abcdefgh", "z"), ())
ONLY_PAYERS = ((), (("a", ()), ("zzzzzzzz", ())))
EMPTY_LISTS = (("a", "b"), (("p", ()), ("q", ())))
# The NAMEs are bills and payers.
BOTH = (("a", "b"), (("a", ("a",)), ("b", ("a", "b"))))
HEADS = (("gas", "rent"), ("rent", "tax"), ("tax", ""))
GREAT = 10 ** 60


def leads_out(heads, bill):
    """Whether from this bill these heads, a dict, lead to ""."""
    for turn in range(len(heads)):
        bill = heads.get(bill, bill)
    return bill == ""


def all_heads(names):
    """All HEADS of these bills, in a second way."""
    for heads in itertools.product(("",) + tuple(names), repeat=len(names)):
        told = dict(zip(names, heads))
        if all(leads_out(told, bill) for bill in names):
            yield tuple(zip(names, heads))


def ways_by(heads):
    """The ways from all bills by these HEADS, in a second way."""
    told = dict(heads)
    ways = []
    for bill in told:
        way = [bill]
        while told[way[-1]] != "":
            way.append(told[way[-1]])
        ways.append(tuple(way))
    return ways


def rounds_of(circle):
    """All rows that go round this row once."""
    return [circle[at:] + circle[:at] for at in range(len(circle))]


def check_kinds(case, book):
    """heads_of, circle_of, row_of and kinds_of of a BOOK beside all that could stand there."""
    full = [row for payer, row in book[1] if row]
    heads = [some for some in all_heads(book[0]) if set(full) <= set(ways_by(some))]
    unlisted = [bill for bill in book[0] if not any(bill in row for row in full)]
    heads = [some for some in heads if all(dict(some)[bill] == "" for bill in unlisted)]
    case.assertLessEqual(len(heads), 1)
    circles = sorted(row for row in itertools.permutations(book[0]) if set(full) <= set(rounds_of(row)))
    rows = sorted(row for row in rows_of(book[0]) if set(full) <= {row, row[::-1]})
    check_same(case, heads_of(book), heads[0] if heads else None)
    check_same(case, circle_of(book), circles[0] if circles else None)
    check_same(case, row_of(book), (rows[0] if full else ()) if rows else None)
    words = (("backwards", rows), ("circle", circles), ("forest", heads))
    kinds = tuple(word for word, found in words if found)
    check_same(case, kinds_of(book), kinds)
    if kinds:
        case.assertTrue(is_good(book))
        case.assertTrue(all_alike([row for payer, row in book[1]]))
    return kinds


class Forests(unittest.TestCase):

    def test_way_from(self):
        for heads, bill, way in (
                (HEADS, "gas", ("gas", "rent", "tax")), (HEADS, "rent", ("rent", "tax")), (HEADS, "tax", ("tax",)),
                ((("a", ""),), "a", ("a",)), ((("a", "c"), ("b", "c"), ("c", "")), "b", ("b", "c")),
                ((("a", ""), ("abcdefgh", "a"), ("z", "abcdefgh")), "z", ("z", "abcdefgh", "a"))):
            check_call(self, way_from, way, heads=heads, bill=bill)

    def test_way_from_no_bill(self):
        for heads, bill in ((HEADS, "late"), ((), "a"), (HEADS, "ga"), ((("a", ""),), "b")):
            check_raises(self, way_from, NoBill(bill), heads=heads, bill=bill)

    def test_heads_of(self):
        for book, heads in (
                (TREE, HEADS), (NONE, ()), (ONLY_PAYERS, ()), (ONLY_BILLS, (("a", ""), ("abcdefgh", ""), ("z", ""))),
                (EMPTY_LISTS, (("a", ""), ("b", ""))), (RING, None), (FRO, None), (BOTH, None),
                ((("a", "b", "c"), (("p", ("c", "a")), ("q", ("a",)))), (("a", ""), ("b", ""), ("c", "a"))),
                ((("a", "b"), (("p", ("b",)), ("q", ("b", "a")))), None),
                ((("a", "b", "c"), (("p", ("a", "c")), ("q", ("b", "c")))), (("a", "c"), ("b", "c"), ("c", ""))),
                ((("a", "b"), (("p", ("a", "b")), ("q", ("b", "a")))), None)):
            check_call(self, heads_of, heads, book=book)

    def test_book_by_heads(self):
        firsts = (("ann", "rent"), ("bob", "gas"), ("cy", "tax"))
        check_call(self, book_by_heads, TREE, heads=HEADS, firsts=firsts)
        check_call(self, book_by_heads, (TREE[0], (("ann", ()),)), heads=HEADS, firsts=(("ann", ""),))
        check_call(self, book_by_heads, (TREE[0], ()), heads=HEADS, firsts=())
        check_call(self, book_by_heads, NONE, heads=(), firsts=())
        check_call(self, book_by_heads, ((), (("a", ()), ("b", ()))), heads=(), firsts=(("a", ""), ("b", "")))
        made = (("a", "b"), (("a", ("a", "b")), ("zzzzzzzz", ("a", "b"))))
        check_call(self, book_by_heads, made, heads=(("a", "b"), ("b", "")), firsts=(("a", "a"), ("zzzzzzzz", "a")))

    def test_book_by_heads_no_bill(self):
        for heads, firsts, name in (
                (HEADS, (("ann", "gas"), ("bob", "late"), ("cid", "car")), "late"), ((), (("a", "a"),), "a"),
                (HEADS, (("ann", ""), ("bob", "bob")), "bob"), (HEADS, (("gas", "z"), ("rent", "a")), "z")):
            check_raises(self, book_by_heads, NoBill(name), heads=heads, firsts=firsts)

    def test_all_heads_of_three_bills(self):
        for heads in all_heads("abc"):
            ways = ways_by(heads)
            for bill, way in zip("abc", ways):
                check_same(self, way_from(heads, bill), way)
            for firsts in itertools.product(("", "a", "b", "c"), repeat=2):
                book = book_by_heads(heads, tuple(zip("pq", firsts)))
                rows = [dict(zip("abc", ways)).get(first, ()) for first in firsts]
                check_same(self, book, (tuple("abc"), tuple(zip("pq", rows))))
                self.assertTrue(is_book(book) and is_good(book) and "forest" in kinds_of(book))
                listed = {bill for row in rows for bill in row}
                kept = tuple((bill, head if bill in listed else "") for bill, head in heads)
                check_same(self, heads_of(book), kept)


class CirclesAndRows(unittest.TestCase):

    def test_circle_of(self):
        for book, circle in (
                (RING, ("a", "b", "c")), (FRO, None), (TREE, None), (NONE, ()), (ONLY_PAYERS, ()), (BOTH, None),
                (ONLY_BILLS, ("a", "abcdefgh", "z")), (EMPTY_LISTS, ("a", "b")), ((("a",), (("p", ("a",)),)), ("a",)),
                ((("a", "b", "c"), (("p", ("c", "b", "a")), ("q", ("a", "c", "b")))), ("a", "c", "b")),
                ((("a", "b", "c"), (("p", ("b", "c")),)), None),
                ((("a", "b"), (("p", ("b",)), ("q", ("a", "b")))), None),
                ((("a", "b", "c"), (("p", ("b", "a")), ("q", ("a", "b")))), None)):
            check_call(self, circle_of, circle, book=book)

    def test_book_round(self):
        check_call(self, book_round, (("a", "b"), (("p", ("a", "b")),)), circle=("b", "a"), firsts=(("p", "a"),))
        firsts = (("p", "a"), ("q", "b"), ("r", ""))
        check_call(self, book_round, RING, circle=("a", "b", "c"), firsts=firsts)
        check_call(self, book_round, RING, circle=("b", "c", "a"), firsts=firsts)
        check_call(self, book_round, (("z",), (("z", ("z",)),)), circle=("z",), firsts=(("z", "z"),))
        check_call(self, book_round, (("a", "b"), ()), circle=("b", "a"), firsts=())

    def test_book_round_no_bill(self):
        for circle, firsts, name in (
                (("b", "a"), (("p", "a"), ("q", "z"), ("r", "c")), "z"), (("a",), (("a", ""), ("b", "b")), "b"),
                (("b", "a"), (("p", "p"),), "p")):
            check_raises(self, book_round, NoBill(name), circle=circle, firsts=firsts)

    def test_all_circles_of_three_bills(self):
        for circle in itertools.permutations("abc"):
            for firsts in itertools.product(("", "a", "b", "c"), repeat=2):
                book = book_round(circle, tuple(zip("pq", firsts)))
                rows = [([row for row in rounds_of(circle) if row[0] == first] or [()])[0] for first in firsts]
                check_same(self, book, (tuple("abc"), tuple(zip("pq", rows))))
                self.assertTrue(is_book(book) and is_good(book) and "circle" in kinds_of(book))
                if any(firsts):
                    check_same(self, circle_of(book), min(rounds_of(circle)))

    def test_row_of(self):
        for book, row in (
                (FRO, ("a", "c", "b")), (RING, None), (TREE, None), (NONE, ()), (ONLY_PAYERS, ()), (ONLY_BILLS, ()),
                (EMPTY_LISTS, ()), (BOTH, None), ((("a", "b"), (("p", ("b",)), ("q", ()))), ("b",)),
                ((("a", "b", "c"), (("p", ("c", "b")),)), ("b", "c")),
                ((("a", "b", "c"), (("p", ("c", "b")), ("q", ("c", "b")), ("r", ("b", "c")))), ("b", "c")),
                ((("a", "b", "c"), (("p", ("c", "b")), ("q", ("c", "a")))), None)):
            check_call(self, row_of, row, book=book)


class Kinds(unittest.TestCase):

    def test_kinds_of(self):
        every = ("backwards", "circle", "forest")
        for book, kinds in (
                (TREE, ("forest",)), (RING, ("circle",)), (FRO, ("backwards",)), (NONE, every), (ONLY_PAYERS, every),
                (ONLY_BILLS, every), (EMPTY_LISTS, every), ((("a", "b"), (("p", ("b", "a")), ("q", ()))), every),
                ((("a",), (("p", ("a",)),)), every), (BOTH, ()),
                ((("a", "b"), (("p", ("b",)),)), ("backwards", "forest")),
                ((("a", "b"), (("p", ("a", "b")), ("q", ("b", "a")))), ("backwards", "circle"))):
            check_call(self, kinds_of, kinds, book=book)

    def test_all_books_of_two_bills_and_three_payers(self):
        for book in books_of("ab", "pqr"):
            check_kinds(self, book)

    def test_all_books_of_three_bills_and_two_payers(self):
        found = {check_kinds(self, book) for book in books_of("abc", "pq")}
        words = ("backwards", "circle", "forest")
        self.assertIn((), found)
        for word in words:
            self.assertIn((word,), found)

    def test_books_of_four_bills_and_two_payers(self):
        rows = rows_of("abcd")
        for one in rows[::7]:
            for other in rows[3::5]:
                check_kinds(self, (tuple("abcd"), (("p", one), ("q", other), ("r", one[::-1]))))

    def test_with_rest(self):
        made = (("a", "b", "c", "d", "e"), (("p", ("a", "c", "b", "e", "d")), ("q", ("b", "c", "a", "e", "d"))))
        check_call(self, with_rest, made, book=FRO, rest=("e", "d"))
        for book in (NONE, TREE, FRO, ONLY_BILLS, ONLY_PAYERS, EMPTY_LISTS):
            check_call(self, with_rest, book, book=book, rest=())
        made = (("aa", "b"), (("a", ("b", "aa")), ("zzzzzzzz", ("b", "aa"))))
        check_call(self, with_rest, made, book=ONLY_PAYERS, rest=("b", "aa"))
        check_call(self, with_rest, (("a", "abcdefgh", "m", "z"), ()), book=ONLY_BILLS, rest=("m",))
        made = (("a", "b", "p"), (("p", ("p",)), ("q", ("p",))))
        check_call(self, with_rest, made, book=EMPTY_LISTS, rest=("p",))

    def test_with_rest_twice(self):
        for book, rest, name in (
                (TREE, ("late", "tax"), "tax"), (TREE, ("tax", "gas"), "tax"), (FRO, ("z", "c", "a"), "c"),
                (ONLY_BILLS, ("abcdefgh",), "abcdefgh")):
            check_raises(self, with_rest, Twice(name), book=book, rest=rest)

    def test_good_books_stay_good_with_a_rest(self):
        for book in books_of("abc", "pq"):
            made = with_rest(book, ("bb", "aa"))
            self.assertTrue(is_book(made))
            rows = tuple((payer, row + ("bb", "aa")) for payer, row in book[1])
            check_same(self, made, (("a", "aa", "b", "bb", "c"), rows))
            if is_good(book):
                self.assertTrue(is_good(made))


def tables_slowly(names):
    """All TABLES of these bills, ascending, in a second way."""
    rows = [[row for row in itertools.permutations(names) if row[0] == name] for name in names]
    return sorted(itertools.product(*rows))


class Tables(unittest.TestCase):

    def test_how_many_tables(self):
        for number, many in enumerate((1, 1, 8, 1296, 7962624), 1):
            check_call(self, how_many_tables, many, number=number)
        for number in range(1, 41):
            check_same(self, how_many_tables(number), math.factorial(number - 1) ** number)
        for names in ("a", "ab", "abc", "abcd"):
            self.assertEqual(how_many_tables(len(names)), len(tables_slowly(names)))

    def test_good_tables(self):
        for names, many in ((("a",), 1), (("ab", "b"), 1), (("a", "b", "c"), 8)):
            check_call(self, how_many_good_tables, many, bills=names)
        for names in (("z",), ("a", "b"), ("b", "c", "zz"), ("ann", "bob", "cid", "dan")):
            tables = tables_slowly(names)
            good = [table for table in tables if all_alike(table)]
            self.assertTrue(len(names) == 4 or good == tables)
            check_same(self, how_many_good_tables(names), len(good))
            for number in range(0, len(good), 1 if len(good) < 10 else 23):
                check_call(self, nth_good_table, good[number], bills=names, number=number)
            for at in range(0, len(tables), 1 if len(tables) < 10 else 131):
                number = good.index(tables[at]) if tables[at] in good else None
                check_call(self, number_of_good_table, number, table=tables[at])
            check_same(self, nth_good_table(names, len(good) - 1), good[-1])
            check_same(self, number_of_good_table(good[-1]), len(good) - 1)

    def test_no_number(self):
        for names in (("a",), ("a", "b"), ("a", "b", "c"), ("a", "b", "c", "d")):
            many = how_many_good_tables(names)
            for number in (-1, -many, -many - 1, many, many + 1, GREAT, -GREAT):
                check_raises(self, nth_good_table, NoNumber(number), bills=names, number=number)

    def test_number_of_a_table_that_is_not_good(self):
        table = (("a", "b", "c", "d"), ("b", "c", "a", "d"), ("c", "d", "a", "b"), ("d", "a", "b", "c"))
        self.assertFalse(all_alike(table))
        check_call(self, number_of_good_table, None, table=table)

    def test_book_of_table(self):
        check_call(self, book_of_table, (("a",), (("a", ("a",)),)), table=(("a",),))
        table = (("a", "b"), ("b", "a"))
        check_call(self, book_of_table, (("a", "b"), (("a", ("a", "b")), ("b", ("b", "a")))), table=table)
        names = tuple("abcdef")
        table = tuple(names[at:] + names[:at] for at in range(6))
        check_call(self, book_of_table, (names, tuple(zip(names, table))), table=table)
        for table in tables_slowly("abcd")[::13]:
            book = book_of_table(table)
            self.assertTrue(is_book(book))
            self.assertIs(is_good(book), number_of_good_table(table) is not None)


class Things(unittest.TestCase):

    def test_is_heads(self):
        chain = [f"{one}{two}{three}" for one, two, three in itertools.product("abcdefghijkl", repeat=3)]
        many = tuple(zip(chain, chain[1:] + [""]))
        for thing in ((), HEADS, (("a", ""),), (("a", ""), ("b", ""), ("c", "")), (("a", "b"), ("b", "c"), ("c", "")),
                      (("a", ""), ("abcdefgh", "a"), ("zzzzzzzz", "abcdefgh")), many, tuple(zip(chain, [""] + chain))):
            check_call(self, is_heads, True, thing=thing)

    def test_is_not_heads(self):
        chain = [f"{one}{two}{three}" for one, two, three in itertools.product("abcdefghijkl", repeat=3)]
        for thing in (
                (("a", "b"), ("b", "a")), (("a", "c"),), (("a", "a"),), (("a", ""), ("a", "")), (("b", ""), ("a", "")),
                (("a", ""), ("a", "a")), (("", ""),), (("a", ""), ("b", "b")), (("a", "b"), ("b", "c"), ("c", "b")),
                (("a", "b"), ("b", "c"), ("c", "a")), (("a", ""), ("b", "c"), ("c", "d"), ("d", "b")), (("a", None),),
                tuple(zip(chain, chain[1:] + chain[:1])), tuple(zip(chain, chain[1:] + ["zzz"])), ("a", ""), "a", None,
                (("a",),), (("a", "", ""),), ((("a", ""),),), (("a", ()),), (("a", 0),), (("a", False),), ((1, ""),)):
            check_call(self, is_heads, False, thing=thing)

    def test_all_small_things_as_heads(self):
        heads = [set(all_heads(names)) for names in ("", "a", "b", "ab", "c", "ac", "bc", "abc")]
        pairs = list(itertools.product(("a", "b", "c"), ("", "a", "b", "c")))
        for many in range(4):
            for thing in itertools.product(pairs, repeat=many):
                self.assertIs(is_heads(thing), any(thing in some for some in heads))

    def test_is_table(self):
        names = tuple("abcdef")
        for some, thing in (
                (("a",), (("a",),)), (("a", "b"), (("a", "b"), ("b", "a"))), (("abcdefgh",), (("abcdefgh",),)),
                (("a", "b", "c"), (("a", "c", "b"), ("b", "a", "c"), ("c", "b", "a"))),
                (names, tuple(names[at:] + names[:at] for at in range(6)))):
            check_call(self, is_table, True, bills=some, thing=thing)
        for thing in tables_slowly("abcd")[::29]:
            check_call(self, is_table, True, bills=tuple("abcd"), thing=thing)

    def test_is_no_table(self):
        for some, thing in (
                (("a", "b"), (("b", "a"), ("a", "b"))), (("a", "b"), (("a", "b"),)), (("a", "b"), (("a",), ("b",))),
                (("a", "b"), (("a", "b"), ("b", "a"), ("a", "b"))), (("a", "b"), (("a", "b"), ("a", "b"))),
                (("a", "b"), (("a", "b"), ("b", "c"))), (("a",), (("a", "b"), ("b", "a"))), (("a",), (("b",),)),
                (("a",), ()), (("a",), ((),)), (("a",), (("a", "a"),)), (("a", "b"), (("a", "b"), ("b", "a", "a"))),
                (("a",), ("a",)), (("a",), "a"), (("a",), ("a", "a")), (("a",), None), (("a",), (["a"],)),
                (("a",), [("a",)]), (("a",), 1), (("a",), ((1,),)), (("a",), ((None,),)), (("a",), ((("a",),),))):
            check_call(self, is_table, False, bills=some, thing=thing)

    def test_all_small_things_as_tables(self):
        names = ("a", "b")
        rows = [row for many in range(4) for row in itertools.product(names, repeat=many)]
        tables = {some: tables_slowly(some) for some in (("a",), ("b",), names)}
        for many in range(4):
            for thing in itertools.product(rows, repeat=many):
                for some, found in tables.items():
                    self.assertIs(is_table(some, thing), thing in found)


if __name__ == "__main__":
    unittest.main()
