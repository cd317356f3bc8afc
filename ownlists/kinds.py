"""Kinds of good books: forests, circles, books that go backwards; tables of lists, counted and numbered."""

from ownlists.agree import agree
from ownlists.errors import NoNumber
from ownlists.plain import all_lists, frozen, is_ascending, is_list, is_name, is_pair, want_bills, want_new


def is_heads(thing):
    """Whether thing are HEADS, of however many bills."""
    if not isinstance(thing, tuple) or not all([_is_headed(part) for part in thing]):
        return False
    after = {bill: head for bill, head in thing}
    inside = all([head == "" or head in after for bill, head in thing])
    return inside and is_ascending([bill for bill, head in thing]) and _lead_out(after)


def way_from(heads, bill):
    """The way from this bill: it, its head, the head of that one, and so on."""
    after = {name: head for name, head in heads}
    want_bills([bill], after)
    return _way(after, bill)


def heads_of(book):
    """The HEADS of all bills by which the BOOK is a forest; None if it is no forest."""
    after = {}
    for payer, row in book[1]:
        for bill, head in zip(row, tuple(row[1:]) + ("",)):
            if after.setdefault(bill, head) != head:
                return None
    return tuple([(bill, after.get(bill, "")) for bill in book[0]])


def book_by_heads(heads, firsts):
    """The BOOK with these bills and payers, each with the way from its first as LIST, () for ""."""
    after = {bill: head for bill, head in heads}
    _want_firsts(firsts, after)
    return tuple([bill for bill, head in heads]), tuple([(payer, _way(after, first)) for payer, first in firsts])


def circle_of(book):
    """The least row of all bills by which the BOOK is a circle; None if it is no circle."""
    names = tuple(book[0])
    rows = _lists_with_bills(book)
    if not all([len(row) == len(names) for row in rows]):
        return None
    # From the least bill on each LIST tells the row, and no row that tells the same is less.
    return _only_one([_round_from(row, names[0]) for row in rows], names)


def book_round(circle, firsts):
    """The BOOK with these bills and payers, each of whose LISTS goes round from its first on, () for ""."""
    _want_firsts(firsts, circle)
    return tuple(sorted(circle)), tuple([(payer, _round_from(circle, first)) for payer, first in firsts])


def row_of(book):
    """The row, or the same backwards if that is less, by which the BOOK goes backwards; None if it does not."""
    return _only_one([min(row, row[::-1]) for row in _lists_with_bills(book)], ())


def kinds_of(book):
    """The set of the words of the kinds that the BOOK is of."""
    told = (("backwards", row_of(book)), ("circle", circle_of(book)), ("forest", heads_of(book)))
    return tuple([word for word, value in told if value is not None])


def with_rest(book, rest):
    """The BOOK with these bills, too, and with this row behind each LIST."""
    want_new(rest, book[0])
    row = tuple(rest)
    return tuple(sorted(tuple(book[0]) + row)), tuple([(payer, tuple(first) + row) for payer, first in book[1]])


def is_table(bills, thing):
    """Whether thing is a TABLE of these bills."""
    if not isinstance(thing, tuple) or len(thing) != len(bills) or not all([is_list(row) for row in thing]):
        return False
    names = list(bills)
    return all([sorted(row) == names and row[0] == name for name, row in zip(names, thing)])


def how_many_tables(number):
    """How many TABLES so many bills have."""
    rows = 1
    for factor in range(1, number):
        rows = rows * factor
    tables = 1
    for _ in range(number):
        tables = tables * rows
    return tables


def how_many_good_tables(bills):
    """How many of the TABLES of these bills are good."""
    return len(_good_tables(bills))


def nth_good_table(bills, number):
    """The good TABLE of these bills with this number."""
    tables = _good_tables(bills)
    if not 0 <= number < len(tables):
        raise NoNumber(number)
    return tables[number]


def number_of_good_table(table):
    """The number of this TABLE among the good ones of its bills; None if it is not good."""
    rows = frozen(table)
    tables = _good_tables(tuple([row[0] for row in rows]))
    if rows not in tables:
        return None
    return tables.index(rows)


def book_of_table(table):
    """The BOOK with these bills, and with a payer of each NAME, who has the LIST that begins with it."""
    rows = frozen(table)
    return tuple([row[0] for row in rows]), tuple([(row[0], row) for row in rows])


def _is_headed(thing):
    """Whether thing is a pair of a NAME and a NAME or ""."""
    return is_pair(thing) and is_name(thing[0]) and (thing[1] == "" or is_name(thing[1]))


def _lead_out(after):
    """Whether from each bill the heads that this dict tells lead to ""."""
    # Each bill is marked by the first way that comes to it; a way that comes to its own mark goes in a circle.
    marks = {}
    for bill in after:
        at = bill
        while at != "" and at not in marks:
            marks[at] = bill
            at = after[at]
        if at != "" and marks[at] == bill:
            return False
    return True


def _way(after, first):
    """The row of first, its head by this dict, the head of that one, and so on; () for ""."""
    way = []
    at = first
    while at != "":
        way.append(at)
        at = after[at]
    return tuple(way)


def _want_firsts(firsts, known):
    """Raise NoBill for the first one of the firsts, but "", that is none of the known bills."""
    want_bills([first for payer, first in firsts if first != ""], known)


def _lists_with_bills(book):
    """The list of the LISTS that are not ()."""
    return [tuple(row) for payer, row in book[1] if len(row) > 0]


def _only_one(rows, other):
    """The row that all these rows are; None if they are unlike, other if there are none."""
    unlike = sorted(set(rows))
    if len(unlike) > 1:
        return None
    return unlike[0] if unlike else other


def _round_from(circle, first):
    """The row that goes round this one once, from first on; () for ""."""
    if first == "":
        return ()
    place = circle.index(first)
    return tuple(circle[place:]) + tuple(circle[:place])


def _good_tables(names):
    """The ascending list of the good TABLES of these bills."""
    tables = [()]
    for name in names:
        rows = _whole_lists_from(names, name)
        tables = [table + (row,) for table in tables for row in rows if all([agree(row, other) for other in table])]
    return tables


def _whole_lists_from(names, first):
    """The ascending list of the LISTS that have all these bills and begin with this one."""
    others = tuple([name for name in names if name != first])
    return [(first,) + row for row in all_lists(others) if len(row) == len(others)]
