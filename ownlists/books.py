"""Books of lists: which bills there are, and which payer has which of them in which order."""

from ownlists.errors import NoBill, NoPayer, Twice
from ownlists.plain import first_not_in, is_ascending, is_list, is_name, is_name_set, is_pair, least_double


def is_book(thing):
    """Whether thing is a BOOK, of however many bills and payers."""
    if not is_pair(thing):
        return False
    names, rows = thing
    if not is_name_set(names) or not isinstance(rows, tuple):
        return False
    if not all([is_pair(pair) and is_name(pair[0]) and is_list(pair[1]) for pair in rows]):
        return False
    # A dict, as the bills may be too many to look through them for each NAME.
    known = {name: True for name in names}
    inside = all([name in known for payer, row in rows for name in row])
    return inside and is_ascending([payer for payer, row in rows])


def bills(book):
    """The set of the bills."""
    return tuple(book[0])


def payers(book):
    """The set of the payers."""
    return tuple([payer for payer, row in book[1]])


def list_of(book, payer):
    """The LIST of this payer."""
    for name, row in book[1]:
        if name == payer:
            return tuple(row)
    raise NoPayer(payer)


def payers_with(book, bill):
    """The set of the payers whose LIST has this bill."""
    _want_bills(book, [bill])
    return tuple([payer for payer, row in book[1] if bill in row])


def ahead(book, payer, bill):
    """The bills ahead of this one in the LIST of this payer; None if this does not have it."""
    row, place = _place_in(book, payer, bill)
    if place is None:
        return None
    return row[:place]


def behind(book, payer, bill):
    """The bills behind this one in the LIST of this payer; None if this does not have it."""
    row, place = _place_in(book, payer, bill)
    if place is None:
        return None
    return row[place + 1:]


def with_payer(book, payer, row):
    """The BOOK with this payer more, who has this LIST."""
    if payer in payers(book):
        raise Twice(payer)
    _want_bills(book, row)
    return _book_of(bills(book), _rows(book) + [(payer, tuple(row))])


def without_payer(book, payer):
    """The BOOK without this payer."""
    _want_payers(book, [payer])
    return _book_of(bills(book), [(name, row) for name, row in _rows(book) if name != payer])


def with_list(book, payer, row):
    """The BOOK in which this payer has this LIST."""
    _want_payers(book, [payer])
    _want_bills(book, row)
    others = [(name, old) for name, old in _rows(book) if name != payer]
    return _book_of(bills(book), others + [(payer, tuple(row))])


def with_bill(book, bill):
    """The BOOK with this bill more, in no LIST."""
    _want_new_bill(book, bill)
    return _book_of(bills(book) + (bill,), _rows(book))


def struck(book, bill):
    """The BOOK without this bill, also in all LISTS."""
    _want_bills(book, [bill])
    rows = [(payer, _without(row, bill)) for payer, row in _rows(book)]
    return _book_of(_without(bills(book), bill), rows)


def parted(book, bill, name):
    """The BOOK with the bill name more, just behind bill in each LIST that has bill."""
    _want_bills(book, [bill])
    _want_new_bill(book, name)
    rows = [(payer, _with_behind(row, bill, name)) for payer, row in _rows(book)]
    return _book_of(bills(book) + (name,), rows)


def renamed(book, pairs):
    """The BOOK with the second NAME of each pair for the bill that is the first one, all at once."""
    _want_bills(book, [old for old, new in pairs])
    names = _exchanged(bills(book), pairs)
    _want_unlike(names)
    return _book_of(names, [(payer, _exchanged(row, pairs)) for payer, row in _rows(book)])


def renamed_payers(book, pairs):
    """The BOOK with the second NAME of each pair for the payer that is the first one, all at once."""
    _want_payers(book, [old for old, new in pairs])
    names = _exchanged(payers(book), pairs)
    _want_unlike(names)
    return _book_of(bills(book), [(name, row) for name, (payer, row) in zip(names, _rows(book))])


def _rows(book):
    """The list of the pairs (payer, LIST), with tuples for lists."""
    return [(payer, tuple(row)) for payer, row in book[1]]


def _book_of(names, rows):
    """The BOOK of these bills and these pairs (payer, LIST), in whatever order they come."""
    return tuple(sorted(names)), tuple(sorted(rows))


def _place_in(book, payer, bill):
    """The LIST of this payer, and the place of the bill in it; None for the place if it is not there."""
    row = list_of(book, payer)
    _want_bills(book, [bill])
    if bill not in row:
        return row, None
    return row, row.index(bill)


def _without(row, bill):
    """The row without this bill."""
    return tuple([name for name in row if name != bill])


def _with_behind(row, bill, name):
    """The row with name just behind bill, if it has bill."""
    if bill not in row:
        return row
    place = row.index(bill) + 1
    return row[:place] + (name,) + row[place:]


def _exchanged(names, pairs):
    """The NAMEs, each that is the first one of a pair being exchanged for the second one."""
    after = {old: new for old, new in pairs}
    return tuple([after.get(name, name) for name in names])


def _want_payers(book, names):
    """Raise NoPayer for the first NAME that is no payer."""
    name = first_not_in(names, payers(book))
    if name is not None:
        raise NoPayer(name)


def _want_bills(book, names):
    """Raise NoBill for the first NAME that is no bill."""
    name = first_not_in(names, bills(book))
    if name is not None:
        raise NoBill(name)


def _want_new_bill(book, name):
    """Raise Twice if this NAME is a bill already."""
    if name in bills(book):
        raise Twice(name)


def _want_unlike(names):
    """Raise Twice for the least NAME that stands there more than once."""
    name = least_double(names)
    if name is not None:
        raise Twice(name)
