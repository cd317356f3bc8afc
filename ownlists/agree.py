"""Lists that agree: whether what is due in the end hangs on who pays first, and what shows it."""

from ownlists.books import bills, list_of
from ownlists.laid import ends, is_dues, is_payments
from ownlists.plain import first_unlike, is_pair


def rest_beside(one, other, bill):
    """The REST of the bill in the LIST one beside the LIST other; None if it is not in both."""
    if bill not in one or bill not in other:
        return None
    sooner = other[:other.index(bill)]
    return tuple([name for name in one[one.index(bill) + 1:] if name not in sooner])


def agree(one, other):
    """Whether the two LISTS agree."""
    return odd_bills(one, other) == ()


def odd_bills(one, other):
    """The set of the bills that both LISTS have with unlike RESTs."""
    # A bill that is not in both has None as its REST either way.
    return tuple(sorted([bill for bill in one if rest_beside(one, other, bill) != rest_beside(other, one, bill)]))


def agreeing(book, payer):
    """The set of the other payers whose LISTS agree with that of this one."""
    row = list_of(book, payer)
    return tuple([name for name, other in book[1] if name != payer and agree(row, other)])


def odd_pairs(book):
    """The set of the pairs of payers, the lesser one first, whose LISTS do not agree."""
    found = []
    for place, (one, row) in enumerate(book[1]):
        found.extend([(one, other) for other, beside in book[1][place + 1:] if not agree(row, beside)])
    return tuple(found)


def is_good(book):
    """Whether the BOOK is good: each two of its LISTS agree."""
    return odd_pairs(book) == ()


def parting(book):
    """DUES and two PAYMENTS of 1, by two payers, that have two ENDS; None if the BOOK is good."""
    pairs = odd_pairs(book)
    if not pairs:
        return None
    one, other = pairs[0]
    return parting_of(book, one, other)


def parting_of(book, one, other):
    """DUES, and PAYMENTS of 1 of one and of other, that have two ENDS; None if their LISTS agree."""
    row, beside = list_of(book, one), list_of(book, other)
    odd = odd_bills(row, beside)
    if not odd:
        return None
    # Whoever comes first pays the odd bill; what is left to the other one is another bill either way, or none.
    bill = odd[0]
    rest, other_rest = rest_beside(row, beside, bill), rest_beside(beside, row, bill)
    place = first_unlike(rest, other_rest)
    due = (bill,) + rest[place:place + 1] + other_rest[place:place + 1]
    dues = tuple([(name, 1 if name in due else 0) for name in bills(book)])
    return dues, ((one, 1), (other, 1))


def is_parting(book, thing):
    """Whether thing is a pair of DUES and of two PAYMENTS that have two ENDS."""
    if not is_pair(thing):
        return False
    dues, payments = thing
    if not is_dues(book, dues) or not is_pair(payments) or not is_payments(book, payments):
        return False
    return len(ends(book, dues, payments)) == 2
