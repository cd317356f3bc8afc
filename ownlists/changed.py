"""Lists changed: what makes a book good, the nearest lists by which it is, and payments that tell two books apart."""

from ownlists.agree import is_good
from ownlists.books import bills, list_of, payers, with_list, without_payer
from ownlists.errors import OtherBook
from ownlists.joining import having
from ownlists.laid import is_dues, left_by
from ownlists.plain import first_unlike, is_amount, want_bills


def good_exchanges(book, payer):
    """The set of the places k such that the BOOK is good if the bills at k and k + 1 are exchanged."""
    row = list_of(book, payer)
    return tuple([place for place in range(len(row) - 1)
                  if _is_good_by(book, payer, row[:place] + (row[place + 1], row[place]) + row[place + 2:])])


def good_puts(book, payer, bill):
    """The set of the places at which this bill can be put into the LIST so that the BOOK is good."""
    row = list_of(book, payer)
    want_bills([bill], bills(book))
    if bill in row:
        return ()
    return tuple([place for place in range(len(row) + 1)
                  if _is_good_by(book, payer, row[:place] + (bill,) + row[place:])])


def good_outs(book, payer):
    """The set of the bills of this LIST such that the BOOK is good if this one is left out."""
    row = list_of(book, payer)
    return tuple([bill for bill in sorted(row)
                  if _is_good_by(book, payer, [name for name in row if name != bill])])


def fewest_steps(one, other):
    """How few steps lead from the LIST one to the LIST other."""
    # What stays is a row of NAMEs in both: lengths[k] tells how long it can be in one so far and the first k of other.
    lengths = [0] * (len(other) + 1)
    for name in one:
        longer = [0]
        for place, beside in enumerate(other):
            longer.append(lengths[place] + 1 if name == beside else max(lengths[place + 1], longer[place]))
        lengths = longer
    return len(one) + len(other) - 2 * lengths[-1]


def nearest_lists(book, payer):
    """The pair of the fewest steps and the LISTS to which they lead by which the BOOK is good; None if none is."""
    row = list_of(book, payer)
    if not is_good(without_payer(book, payer)):
        return None
    rows = having(book, payer)
    steps = [fewest_steps(row, other) for other in rows]
    fewest = min(steps)
    return fewest, [other for other, many in zip(rows, steps) if many == fewest]


def unlike_payers(one, other):
    """The set of the payers whose LISTS in both BOOKs are unlike."""
    _want_same(one, other)
    return tuple([payer for payer in payers(one) if list_of(one, payer) != list_of(other, payer)])


def parting_payment(one, other):
    """The triple (dues, payer, amount) of a PAYMENT that leaves unlike OPENS by both BOOKs; None if there is none."""
    unlike = unlike_payers(one, other)
    if not unlike:
        return None
    payer = unlike[0]
    # With 1 due at each bill so much comes just to where the two LISTS part.
    amount = first_unlike(list_of(one, payer), list_of(other, payer)) + 1
    return tuple([(bill, 1) for bill in bills(one)]), payer, amount


def is_parting_payment(one, other, thing):
    """Whether thing is a triple (dues, payer, amount) of a PAYMENT that leaves unlike OPENS by both BOOKs."""
    _want_same(one, other)
    if not isinstance(thing, tuple) or len(thing) != 3:
        return False
    dues, payer, amount = thing
    if not is_dues(one, dues) or payer not in payers(one) or not is_amount(amount):
        return False
    return left_by(list_of(one, payer), dues, amount) != left_by(list_of(other, payer), dues, amount)


def _is_good_by(book, payer, row):
    """Whether the BOOK is good if this payer has this LIST."""
    return is_good(with_list(book, payer, row))


def _want_same(one, other):
    """Raise OtherBook if the bills or the payers of the BOOKs are not the same."""
    if bills(one) != bills(other) or payers(one) != payers(other):
        raise OtherBook()
