"""Lists that may join: what keeps a book good, the most payers kept, the fewest bills struck."""

from ownlists.agree import agree, is_good, odd_pairs
from ownlists.books import bills, list_of, payers, struck, without_payer
from ownlists.plain import all_lists, all_sets, want_bills


def may_join(book, row):
    """Whether this LIST may join the BOOK: it agrees with each LIST of it."""
    want_bills(row, bills(book))
    return all([agree(row, other) for payer, other in book[1]])


def joining(book):
    """The ascending list of the LISTS that may join the BOOK."""
    return [row for row in all_lists(bills(book)) if may_join(book, row)]


def how_many_join(book):
    """How many LISTS may join the BOOK."""
    return len(joining(book))


def joining_from(book, row):
    """The ascending list of the LISTS that may join the BOOK and begin with all of row."""
    want_bills(row, bills(book))
    first = tuple(row)
    return [other for other in joining(book) if other[:len(first)] == first]


def having(book, payer):
    """The ascending list of the LISTS that agree with those of all other payers."""
    return joining(without_payer(book, payer))


def longest_beginning(book, payer):
    """The longest beginning of the LIST of this payer that agrees with the LISTS of all other payers."""
    row = list_of(book, payer)
    others = without_payer(book, payer)
    while not may_join(others, row):
        # This ends, as () agrees with every LIST.
        row = row[:-1]
    return row


def most_kept(book):
    """The set of the most payers each two of whose LISTS agree, of several the least."""
    # Of several max takes the first one, and they ascend.
    return max(_agreeing_sets(book), key=len)


def whole_kept(book):
    """The ascending list of the sets of agreeing payers to which no further payer can be added."""
    kept = _agreeing_sets(book)
    return [some for some in kept if not _can_grow(some, payers(book), kept)]


def fewest_struck(book):
    """The set of the fewest bills without which the BOOK is good, of several the least."""
    good = [some for some in all_sets(bills(book)) if is_good(_all_struck(book, some))]
    # Of several min takes the first one, and they ascend.
    return min(good, key=len)


def _agreeing_sets(book):
    """The ascending list of the sets of payers each two of whose LISTS agree."""
    odd = odd_pairs(book)
    return [some for some in all_sets(payers(book))
            if not any([one in some and other in some for one, other in odd])]


def _can_grow(some, names, kept):
    """Whether this set with one more of the NAMEs is among the kept ones."""
    return any([tuple(sorted(some + (name,))) in kept for name in names])


def _all_struck(book, some):
    """The BOOK without all these bills."""
    left = book
    for bill in some:
        left = struck(left, bill)
    return left
