"""Payments of one, counted: what is due behind rows of payers each of whom pays 1, and by how many rows."""

from ownlists.books import list_of
from ownlists.errors import NoNumber
from ownlists.laid import left_by
from ownlists.plain import frozen


def after_ones(book, dues, row):
    """The OPENS behind these payers, each of whom pays 1."""
    opens = frozen(dues)
    for payer in row:
        opens = left_by(list_of(book, payer), opens, 1)
    return opens


def opens_after(book, dues, many):
    """The pairs (OPENS, how many): behind so many ROWS of just many payers these are due."""
    counts = _counts_after(_moves(book, dues, many), frozen(dues), many)
    return tuple([(opens, counts[opens]) for opens in sorted(counts)])


def how_many_rows(book, dues, many, left):
    """How many ROWS of just many payers there are behind which left are due."""
    counts = _counts_after(_moves(book, dues, many), frozen(dues), many)
    return counts.get(frozen(left), 0)


def how_many_pay_all(book, dues, many):
    """How many ROWS of just many payers there are behind which nothing is due."""
    return how_many_rows(book, dues, many, [(bill, 0) for bill, number in dues])


def how_many_without_back(book, dues, many):
    """How many ROWS of just many payers there are of which none is given back anything."""
    moves = _moves(book, dues, many)
    # What is not given back lessens what is due.
    spent = {opens: tuple([(payer, left) for payer, left in moves[opens] if left != opens]) for opens in moves}
    counts = _counts_after(spent, frozen(dues), many)
    return sum([counts[opens] for opens in counts])


def nth_row(book, dues, many, left, number):
    """The ROW with this number of those of just many payers behind which left are due."""
    moves = _moves(book, dues, many)
    counts = _counts_to(moves, frozen(left), many)
    opens, still = frozen(dues), number
    if not 0 <= number < counts[many].get(opens, 0):
        raise NoNumber(number)
    row = []
    for rest in range(many - 1, -1, -1):
        payer, opens, still = _step_to(moves[opens], counts[rest], still)
        row.append(payer)
    return tuple(row)


def number_of_row(book, dues, row):
    """The number of this ROW among those that are as long and behind which the same is due."""
    left = after_ones(book, dues, row)
    moves = _moves(book, dues, len(row))
    counts = _counts_to(moves, left, len(row))
    opens, number = frozen(dues), 0
    for place, payer in enumerate(row):
        below = counts[len(row) - place - 1]
        number = number + sum([below.get(then, 0) for other, then in moves[opens] if other < payer])
        opens = left_by(list_of(book, payer), opens, 1)
    return number


def _moves(book, dues, many):
    """For all OPENS that are due behind fewer than many payers: the pairs (payer, what is due behind this one)."""
    moves = {}
    reached = {frozen(dues): True}
    for _ in range(many):
        news = {}
        for opens in reached:
            moves[opens] = tuple([(payer, left_by(row, opens, 1)) for payer, row in book[1]])
            for payer, left in moves[opens]:
                news[left] = True
        reached = {opens: True for opens in news if opens not in moves}
    return moves


def _counts_after(moves, dues, many):
    """The dict of how many ROWS of just many payers lead from the dues to these OPENS."""
    counts = {dues: 1}
    for _ in range(many):
        after = {}
        for opens in counts:
            for payer, left in moves[opens]:
                after[left] = after.get(left, 0) + counts[opens]
        counts = after
    return counts


def _counts_to(moves, left, many):
    """For each length, from 0 to many: the dict of how many ROWS that long lead from these OPENS to left."""
    counts = [{left: 1}]
    for _ in range(many):
        below = counts[-1]
        counts.append({opens: sum([below.get(then, 0) for payer, then in moves[opens]]) for opens in moves})
    return counts


def _step_to(steps, counts, number):
    """Of these steps the one with which the ROW with this number goes on, and its number among those that do so."""
    place, still = 0, number
    while still >= counts.get(steps[place][1], 0):
        still = still - counts.get(steps[place][1], 0)
        place = place + 1
    return steps[place] + (still,)
