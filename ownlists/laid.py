"""Money laid: what is due at each bill when payments are laid, one behind another, by the payers' lists."""

from ownlists.books import bills, list_of, payers
from ownlists.plain import frozen, is_amounts, is_number


def is_dues(book, thing):
    """Whether thing are DUES of the BOOK."""
    return is_amounts(thing) and tuple([pair[0] for pair in thing]) == bills(book)


def is_payments(book, thing):
    """Whether thing are PAYMENTS of the BOOK, however many."""
    known = payers(book)
    return is_amounts(thing) and all([pair[0] in known for pair in thing])


def is_order(payments, thing):
    """Whether thing is an ORDER of these PAYMENTS."""
    if not isinstance(thing, tuple) or not all([is_number(place) for place in thing]):
        return False
    return sorted(thing) == list(range(len(payments)))


def first_open(book, dues, payer):
    """The first bill of the LIST of this payer that is open; None if there is none."""
    due = _by_bill(dues)
    for bill in list_of(book, payer):
        if due[bill] > 0:
            return bill
    return None


def paid(book, dues, payer, amount):
    """The pairs (bill, number): on which bills this amount is laid, and how much on each."""
    return _shares(list_of(book, payer), dues, amount)


def laid(book, dues, payer, amount):
    """The pair of the OPENS behind this amount, and of how much of it is given back."""
    shares = paid(book, dues, payer, amount)
    return _lessened(dues, shares), amount - _sum_of(shares)


def left_by(row, dues, amount):
    """What is due then at each bill, by this LIST, whosever it is."""
    return _lessened(dues, _shares(row, dues, amount))


def along(book, dues, payments, order):
    """The list of the OPENS behind the first PAYMENT of the ORDER, the second one, and so on."""
    return [opens for place, shares, opens in _steps(book, dues, payments, order)]


def end_of(book, dues, payments, order):
    """The END of the ORDER."""
    moments = [frozen(dues)] + along(book, dues, payments, order)
    return moments[-1]


def ends(book, dues, payments):
    """The ascending list of the ENDS, each once."""
    # A state is what is still to be laid, and what is due: orders that come to the same go on as one.
    states = {(frozen(payments), frozen(dues)): True}
    for _ in payments:
        states = _states_behind(book, states)
    return sorted([opens for rest, opens in states])


def paid_by(book, dues, payments, order):
    """The set of the triples (payer, bill, number): how much of the payer's money is laid on the bill in all."""
    sums = {}
    for place, shares, opens in _steps(book, dues, payments, order):
        payer = payments[place][0]
        for bill, number in shares:
            sums[payer, bill] = sums.get((payer, bill), 0) + number
    return tuple([(payer, bill, sums[payer, bill]) for payer, bill in sorted(sums)])


def given_back(book, dues, payments, order):
    """How much of each PAYMENT is given back, in their own order."""
    back = {}
    for place, shares, opens in _steps(book, dues, payments, order):
        back[place] = payments[place][1] - _sum_of(shares)
    return tuple([back[place] for place in range(len(payments))])


def sum_back(book, dues, payments, order):
    """How much is given back in all."""
    return sum(given_back(book, dues, payments, order))


def _by_bill(pairs):
    """The dict of the numbers of these pairs (bill, number)."""
    return {bill: number for bill, number in pairs}


def _sum_of(shares):
    """The sum of the numbers of these pairs (bill, number)."""
    return sum([number for bill, number in shares])


def _shares(row, opens, amount):
    """The pairs (bill, number): what this amount pays, laid by this LIST, each number more than 0."""
    due = _by_bill(opens)
    left = amount
    shares = []
    for bill in row:
        number = min(due[bill], left)
        if number > 0:
            shares.append((bill, number))
            left = left - number
    return tuple(shares)


def _lessened(opens, shares):
    """The OPENS when these shares are paid."""
    gone = _by_bill(shares)
    return tuple([(bill, number - gone.get(bill, 0)) for bill, number in opens])


def _steps(book, dues, payments, order):
    """The list of the triples, in the ORDER: the place of a PAYMENT, its shares, the OPENS behind it."""
    opens = dues
    steps = []
    for place in order:
        payer, amount = payments[place]
        shares = paid(book, opens, payer, amount)
        opens = _lessened(opens, shares)
        steps.append((place, shares, opens))
    return steps


def _states_behind(book, states):
    """The states to which one more PAYMENT leads from these; see ends."""
    after = {}
    for rest, opens in states:
        for place, (payer, amount) in enumerate(rest):
            left = laid(book, opens, payer, amount)[0]
            after[rest[:place] + rest[place + 1:], left] = True
    return after
