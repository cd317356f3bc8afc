"""What can stand open: which bills can be closed, one behind another, and by which payers."""

from ownlists.books import bills, payers
from ownlists.laid import end_of, is_dues, is_payments
from ownlists.plain import all_sets, first_not_in, frozen, want_bills


def payments_for(book, dues, left):
    """PAYMENTS, laid as they stand there, behind which left are due; None if left can't stand."""
    owed, closed = _open_dues(dues), _closed_bills(dues)
    still = {bill: number for bill, number in left}
    lesser = [bill for bill in owed if still[bill] < owed[bill]]
    whole = _row_closing(book, closed, [bill for bill in lesser if still[bill] == 0])
    if whole is None:
        return None
    partly = tuple([bill for bill in lesser if still[bill] > 0])
    if not _is_within(partly, _at_once(book, closed + whole)):
        return None
    return tuple([(_payer_to(book, closed + whole[:place], bill), owed[bill] - still[bill])
                  for place, bill in enumerate(whole + partly)])


def can_stand(book, dues, thing):
    """Whether thing are OPENS, with no number above that of dues, that can stand."""
    if not is_dues(book, thing):
        return False
    below = all([left <= number for (bill, number), (name, left) in zip(dues, thing)])
    return below and payments_for(book, dues, thing) is not None


def is_payments_for(book, dues, left, thing):
    """Whether thing are PAYMENTS, laid one behind another, behind which left are due."""
    return is_payments(book, thing) and end_of(book, dues, thing, tuple(range(len(thing)))) == frozen(left)


def payable(book, dues):
    """The set of the bills with something due that can get anything of some PAYMENTS."""
    return tuple(sorted([bill for some in rounds(book, dues) for bill in some]))


def rounds(book, dues):
    """The sets of the bills that can be paid at once; that can be when these are closed as well; and so on."""
    found = []
    closed = _closed_bills(dues)
    ready = _at_once(book, closed)
    while ready:
        found.append(ready)
        closed = closed + ready
        ready = _at_once(book, closed)
    return tuple(found)


def can_be_whole(book, dues, some):
    """Whether some is a set of bills on which something is due, and can be whole."""
    want_bills(some, bills(book))
    # What is closed already is none of the bills that can be closed.
    return _row_closing(book, _closed_bills(dues), some) is not None


def whole_sets(book, dues):
    """The ascending list of the sets that can be whole."""
    closed = _closed_bills(dues)
    return [some for some in all_sets(tuple(_open_dues(dues))) if _row_closing(book, closed, some) is not None]


def how_many_whole(book, dues):
    """How many sets can be whole."""
    return len(whole_sets(book, dues))


def how_many_opens(book, dues):
    """How many OPENS can stand."""
    owed, closed = _open_dues(dues), _closed_bills(dues)
    total = 0
    for some in whole_sets(book, dues):
        # On each bill that can be paid at once then as many numbers can be left, but 0, as are due.
        many = 1
        for bill in _at_once(book, closed + some):
            many = many * owed[bill]
        total = total + many
    return total


def least_payers(book, dues, left):
    """The least of the sets of the fewest payers by whose PAYMENTS alone left can stand; None if it can't."""
    able = [some for some in all_sets(payers(book)) if payments_for(_book_of(book, some), dues, left) is not None]
    # Of several min takes the first one, and they ascend.
    return min(able, key=len) if able else None


def least_ahead(book, dues, bill):
    """The sets that can be whole and behind which this bill can be paid at once, within which no other one lies."""
    want_bills([bill], bills(book))
    closed = _closed_bills(dues)
    able = [some for some in whole_sets(book, dues) if bill in _at_once(book, closed + some)]
    return [some for some in able if not any([_is_within(other, some) for other in able if other != some])]


def always_ahead(book, dues, bill):
    """The set of the bills that are in each of the sets of least_ahead; None if there are none."""
    found = least_ahead(book, dues, bill)
    if not found:
        return None
    return tuple([name for name in found[0] if all([name in some for some in found])])


def _open_dues(dues):
    """The dict, ascending, of what is due at the bills that are open."""
    return {bill: number for bill, number in dues if number > 0}


def _closed_bills(dues):
    """The set of the bills at which nothing is due."""
    return tuple([bill for bill, number in dues if number == 0])


def _at_once(book, closed):
    """The set of the bills that can be paid at once when just these are closed."""
    firsts = [first_not_in(row, closed) for payer, row in book[1]]
    return tuple(sorted(set([bill for bill in firsts if bill is not None])))


def _row_closing(book, closed, some):
    """A row of just these bills, each of which can be paid at once behind those ahead; None if there is none."""
    row = ()
    while len(row) < len(some):
        # Whoever can be paid at once can be so, too, when more are closed: so no choice is a wrong one.
        ready = [bill for bill in _at_once(book, closed + row) if bill in some]
        if not ready:
            return None
        row = row + tuple(ready)
    return row


def _payer_to(book, closed, bill):
    """The first payer by whom this bill can be paid at once when these are closed."""
    able = [payer for payer, row in book[1] if first_not_in(row, closed) == bill]
    return able[0]


def _book_of(book, some):
    """The BOOK with these of its payers alone."""
    return bills(book), tuple([(payer, row) for payer, row in book[1] if payer in some])


def _is_within(some, other):
    """Whether all of these bills are among the other ones."""
    return first_not_in(some, other) is None
