"""Sums in good books: what is due in the end by what each payer pays in all, and what one more changes."""

from ownlists.agree import odd_pairs
from ownlists.books import ahead, bills, payers
from ownlists.errors import NotGood
from ownlists.laid import end_of, first_open, sum_back
from ownlists.plain import want_bills, want_payers


def open_by(book, dues, sums):
    """The END of PAYMENTS that come to these sums."""
    _want_good(book)
    return end_of(book, dues, sums, _as_they_stand(sums))


def back_by(book, dues, sums):
    """How much is given back in all of PAYMENTS that come to these sums."""
    _want_good(book)
    return sum_back(book, dues, sums, _as_they_stand(sums))


def next_paid(book, dues, sums, payer):
    """The bill that is 1 less open if this payer pays 1 more; None if that is given back."""
    want_payers([payer], payers(book))
    return first_open(book, open_by(book, dues, sums), payer)


def next_due(book, dues, sums, bill):
    """The bill that is 1 more open if 1 more is due on this one; None if no bill is."""
    want_bills([bill], bills(book))
    more = tuple([(name, number + 1 if name == bill else number) for name, number in dues])
    before = open_by(book, dues, sums)
    for pair in open_by(book, more, sums):
        if pair not in before:
            return pair[0]
    return None


def least_to_pay(book, dues, sums, payer, bill):
    """How much more this payer must pay that nothing is open on this bill; None if it never can."""
    want_payers([payer], payers(book))
    want_bills([bill], bills(book))
    opens = {name: number for name, number in open_by(book, dues, sums)}
    if opens[bill] == 0:
        return 0
    sooner = ahead(book, payer, bill)
    if sooner is None:
        return None
    return sum([opens[name] for name in sooner]) + opens[bill]


def open_spans(book, dues, lows, highs):
    """The triples (bill, least, greatest): how much is open on it by sums from lows to highs."""
    # The more is paid, the less is open.
    least, greatest = open_by(book, dues, highs), open_by(book, dues, lows)
    return tuple([(bill, few, many) for (bill, few), (name, many) in zip(least, greatest)])


def back_span(book, dues, lows, highs):
    """The pair of the least and of the greatest that is given back in all by sums from lows to highs."""
    return back_by(book, dues, lows), back_by(book, dues, highs)


def _want_good(book):
    """Raise NotGood for the least pair of payers whose LISTS do not agree."""
    pairs = odd_pairs(book)
    if pairs:
        one, other = pairs[0]
        raise NotGood(one, other)


def _as_they_stand(sums):
    """The ORDER in which these sums, as PAYMENTS, stand: in a good BOOK any ORDER leads to the same END."""
    return tuple(range(len(sums)))
