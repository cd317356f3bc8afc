"""Books of lists: which bills there are, and which payer has which of them in which order."""

from ownlists.errors import NoPayer
from ownlists.plain import is_ascending, is_list, is_name, is_name_set, is_pair
from ownlists.plain import want_bills, want_new, want_payers, want_unlike


def is_book(thing):
    """Whether thing is a BOOK, of however many bills and payers."""
    if not is_pair(thing):
        return False
    names, rows = thing
    if not is_name_set(names) or not isinstance(rows, tuple):
        return False
    if not all([is_pair(pair) and is_name(pair[0]) and is_list(pair[1]) for pair in rows]):
        return False
    # A dict, as the bills may be too many to look through them for each NAME.
    known = {name: True for name in names}
    inside = all([name in known for payer, row in rows for name in row])
    return inside and is_ascending([payer for payer, row in rows])


def bills(book):
    """The set of the bills."""
    return tuple(book[0])


def payers(book):
    """The set of the payers."""
    return tuple([payer for payer, row in book[1]])


def list_of(book, payer):
    """The LIST of this payer."""
    for name, row in book[1]:
        if name == payer:
            return tuple(row)
    raise NoPayer(payer)


def payers_with(book, bill):
    """The set of the payers whose LIST has this bill."""
    want_bills([bill], bills(book))
    return tuple([payer for payer, row in book[1] if bill in row])


def ahead(book, payer, bill):
    """The bills ahead of this one in the LIST of this payer; None if this does not have it."""
    row, place = _place_in(book, payer, bill)
    if place is None:
        return None
    return row[:place]


def behind(book, payer, bill):
    """The bills behind this one in the LIST of this payer; None if this does not have it."""
    row, place = _place_in(book, payer, bill)
    if place is None:
        return None
    return row[place + 1:]


def with_payer(book, payer, row):
    """The BOOK with this payer more, who has this LIST."""
    want_new([payer], payers(book))
    want_bills(row, bills(book))
    return _book_of(bills(book), _rows(book) + [(payer, tuple(row))])


def without_payer(book, payer):
    """The BOOK without this payer."""
    want_payers([payer], payers(book))
    return _book_of(bills(book), [(name, row) for name, row in _rows(book) if name != payer])


def with_list(book, payer, row):
    """The BOOK in which this payer has this LIST."""
    want_payers([payer], payers(book))
    want_bills(row, bills(book))
    others = [(name, old) for name, old in _rows(book) if name != payer]
    return _book_of(bills(book), others + [(payer, tuple(row))])


def with_bill(book, bill):
    """The BOOK with this bill more, in no LIST."""
    want_new([bill], bills(book))
    return _book_of(bills(book) + (bill,), _rows(book))


def struck(book, bill):
    """The BOOK without this bill, also in all LISTS."""
    want_bills([bill], bills(book))
    rows = [(payer, _without(row, bill)) for payer, row in _rows(book)]
    return _book_of(_without(bills(book), bill), rows)


def parted(book, bill, name):
    """The BOOK with the bill name more, just behind bill in each LIST that has bill."""
    want_bills([bill], bills(book))
    want_new([name], bills(book))
    rows = [(payer, _with_behind(row, bill, name)) for payer, row in _rows(book)]
    return _book_of(bills(book) + (name,), rows)


def renamed(book, pairs):
    """The BOOK with the second NAME of each pair for the bill that is the first one, all at once."""
    want_bills([old for old, new in pairs], bills(book))
    names = _exchanged(bills(book), pairs)
    want_unlike(names)
    return _book_of(names, [(payer, _exchanged(row, pairs)) for payer, row in _rows(book)])


def renamed_payers(book, pairs):
    """The BOOK with the second NAME of each pair for the payer that is the first one, all at once."""
    want_payers([old for old, new in pairs], payers(book))
    names = _exchanged(payers(book), pairs)
    want_unlike(names)
    return _book_of(bills(book), [(name, row) for name, (payer, row) in zip(names, _rows(book))])


def _rows(book):
    """The list of the pairs (payer, LIST), with tuples for lists."""
    return [(payer, tuple(row)) for payer, row in book[1]]


def _book_of(names, rows):
    """The BOOK of these bills and these pairs (payer, LIST), in whatever order they come."""
    return tuple(sorted(names)), tuple(sorted(rows))


def _place_in(book, payer, bill):
    """The LIST of this payer, and the place of the bill in it; None for the place if it is not there."""
    row = list_of(book, payer)
    want_bills([bill], bills(book))
    if bill not in row:
        return row, None
    return row, row.index(bill)


def _without(row, bill):
    """The row without this bill."""
    return tuple([name for name in row if name != bill])


def _with_behind(row, bill, name):
    """The row with name just behind bill, if it has bill."""
    if bill not in row:
        return row
    place = row.index(bill) + 1
    return row[:place] + (name,) + row[place:]


def _exchanged(names, pairs):
    """The NAMEs, each that is the first one of a pair being exchanged for the second one."""
    after = {old: new for old, new in pairs}
    return tuple([after.get(name, name) for name in names])
