"""What hangs on the order: which ORDERs of PAYMENTS lead to which ENDs, and what is sure whatever the ORDER."""

from ownlists.books import bills
from ownlists.errors import NoNumber
from ownlists.laid import end_of, ends, is_order, laid, paid
from ownlists.plain import frozen, is_pair, want_bills


def orders_by_ends(book, dues, payments):
    """The pairs (end, number): an END, and how many ORDERs lead to it."""
    told = _told_of_ends(book, dues, payments)
    return tuple([(end, told[end][0]) for end in sorted(told)])


def how_many_orders_to(book, dues, payments, left):
    """How many ORDERs lead to left."""
    return _told_of_ends(book, dues, payments).get(frozen(left), (0, None))[0]


def least_order_to(book, dues, payments, left):
    """The least ORDER that leads to left; None if there is none."""
    return _told_of_ends(book, dues, payments).get(frozen(left), (0, None))[1]


def has_one_end(book, dues, payments):
    """Whether there is just one END."""
    return len(ends(book, dues, payments)) == 1


def parting_orders(book, dues, payments):
    """A pair of ORDERs that lead to unlike ENDs; None if there are none."""
    told = _told_of_ends(book, dues, payments)
    found = sorted(told)
    if len(found) == 1:
        return None
    return told[found[0]][1], told[found[1]][1]


def is_parting_orders(book, dues, payments, thing):
    """Whether thing is a pair of ORDERs that lead to unlike ENDs."""
    if not is_pair(thing) or not all([is_order(payments, order) for order in thing]):
        return False
    one, other = thing
    return end_of(book, dues, payments, one) != end_of(book, dues, payments, other)


def sure_open(book, dues, payments):
    """The pairs (bill, number) of the bills at which the same number is open in all ENDs."""
    ranges = _open_ranges(book, dues, payments)
    return tuple([(bill, least) for bill, least, greatest in ranges if least == greatest])


def open_range(book, dues, payments, bill):
    """The pair of the least and the greatest number that is open at this bill in some END."""
    want_bills([bill], bills(book))
    return _range_at(bill, ends(book, dues, payments))


def surely_whole(book, dues, payments):
    """The set of the bills at which nothing is open in all ENDs."""
    return tuple([bill for bill, least, greatest in _open_ranges(book, dues, payments) if greatest == 0])


def maybe_whole(book, dues, payments):
    """The set of the bills at which nothing is open in some END."""
    return tuple([bill for bill, least, greatest in _open_ranges(book, dues, payments) if least == 0])


def back_range(book, dues, payments):
    """The pair of the least and the greatest sum of all that is given back by an ORDER."""
    # What is not laid is given back.
    over = sum([amount for payer, amount in payments]) - _sum_of(dues)
    backs = [over + _sum_of(end) for end in ends(book, dues, payments)]
    return min(backs), max(backs)


def paid_range(book, dues, payments, place, bill):
    """The pair of the least and the greatest amount that the PAYMENT at this place pays on this bill."""
    if not 0 <= place < len(payments):
        raise NoNumber(place)
    want_bills([bill], bills(book))
    payer, amount = payments[place]
    amounts = []
    for states in _levels(book, dues, payments, ()):
        for rest, opens in states:
            if place in rest:
                shares = {name: number for name, number in paid(book, opens, payer, amount)}
                amounts.append(shares.get(bill, 0))
    return min(amounts), max(amounts)


def ends_with(book, dues, payments, pairs):
    """The ascending list of the ENDS by those ORDERs that have one ahead of other for each of the pairs."""
    return sorted([opens for rest, opens in _levels(book, dues, payments, pairs)[-1]])


def _sum_of(dues):
    """The sum of what is due."""
    return sum([number for bill, number in dues])


def _range_at(bill, found):
    """The pair of the least and the greatest number that is open at this bill in the ENDs that were found."""
    numbers = [number for end in found for name, number in end if name == bill]
    return min(numbers), max(numbers)


def _open_ranges(book, dues, payments):
    """The triples (bill, least, greatest): what is open at it in some END."""
    found = ends(book, dues, payments)
    return [(bill,) + _range_at(bill, found) for bill in bills(book)]


def _told_of_ends(book, dues, payments):
    """The dict that tells of each END how many ORDERs lead to it, and the least of these."""
    states = _levels(book, dues, payments, ())[-1]
    return {opens: states[rest, opens] for rest, opens in states}


def _levels(book, dues, payments, pairs):
    """For each number of PAYMENTS laid, from 0: the states to which they lead; see _states_behind."""
    levels = [{(tuple(range(len(payments))), frozen(dues)): (1, ())}]
    for _ in payments:
        levels.append(_states_behind(book, payments, pairs, levels[-1]))
    return levels


def _states_behind(book, payments, pairs, states):
    """The states to which one more PAYMENT leads from these.

    A state is the places that are still to come, and what is due: orders that come to the same go on as one. It is
    told of each how many orders lead to it, and the least of these: with whatever comes behind it this stays the least.
    """
    after = {}
    for rest, opens in states:
        many, least = states[rest, opens]
        for place in _next_places(rest, pairs):
            payer, amount = payments[place]
            left = laid(book, opens, payer, amount)[0]
            key = (tuple([other for other in rest if other != place]), left)
            earlier, order = after.get(key, (0, least + (place,)))
            after[key] = (earlier + many, min(order, least + (place,)))
    return after


def _next_places(rest, pairs):
    """The places of rest ahead of which none of the other ones must come by these pairs."""
    late = [other for one, other in pairs if one in rest]
    return [place for place in rest if place not in late]
