"""Lists told back: what is known of a payer's list by what money laid by it leaves open, and what tells it."""

from ownlists.laid import is_dues, left_by
from ownlists.plain import all_lists, first_unlike, frozen, is_amount, is_pair


def is_readings(names, thing):
    """Whether thing are READINGS of these bills, however many."""
    return isinstance(thing, tuple) and all([_is_reading(names, part) for part in thing])


def fits(row, readings):
    """Whether this LIST fits the READINGS."""
    return len(_fitting([row], readings)) == 1


def lists_fitting(names, readings):
    """The ascending list of the LISTs of some of these bills that fit."""
    return _fitting(all_lists(names), readings)


def how_many_fitting(names, readings):
    """How many LISTs of some of these bills fit."""
    return len(lists_fitting(names, readings))


def first_unfit(names, readings):
    """The place of the first READING with which, and with all ahead of it, no LIST fits; None if one fits all."""
    rows = all_lists(names)
    for place, reading in enumerate(readings):
        rows = _fitting(rows, [reading])
        if not rows:
            return place
    return None


def surely_ahead(names, readings):
    """The set of the pairs (one, other) of bills that all LISTs that fit have, one ahead of other."""
    rows = lists_fitting(names, readings)
    if not rows:
        return None
    pairs = [(one, other) for one in names for other in names]
    return tuple([(one, other) for one, other in pairs if all([_has_ahead(row, one, other) for row in rows])])


def surely_in(names, readings):
    """The set of the bills that all LISTs that fit have; None if none fits."""
    rows = lists_fitting(names, readings)
    if not rows:
        return None
    return tuple([name for name in names if all([name in row for row in rows])])


def surely_out(names, readings):
    """The set of the bills that no LIST that fits has; None if none fits."""
    rows = lists_fitting(names, readings)
    if not rows:
        return None
    return tuple([name for name in names if not any([name in row for row in rows])])


def sure_left(names, readings, dues, amount):
    """What is open behind this PAYMENT if it is the same by all LISTs that fit; None if not, or if none fits."""
    lefts = _lefts(names, readings, dues, amount)
    return lefts[0] if len(lefts) == 1 else None


def open_ask(names, readings):
    """A pair (dues, amount) with which not the same is open by all LISTs that fit; None if there is none."""
    rows = lists_fitting(names, readings)
    if len(rows) < 2:
        return None
    # With 1 due at each bill so much comes just to where two LISTs part: there one of them has another bill, or none.
    return tuple([(name, 1) for name in names]), first_unlike(rows[0], rows[1]) + 1


def is_open_ask(names, readings, thing):
    """Whether thing is a pair (dues, amount) with which not the same is open by all LISTs that fit."""
    return _is_ask(names, thing) and len(_lefts(names, readings, thing[0], thing[1])) > 1


def told_back(names, asker):
    """The LIST of a payer of whom asker(dues, amount) tells what is open behind a PAYMENT."""
    dues = tuple([(name, 2) for name in names])
    row = ()
    for turn in range((len(names) + 1) // 2):
        left = asker(dues, 4 * turn + 3)
        # So much pays an odd number of bills whole, and half of the next one.
        for number in (0, 1):
            row = row + tuple([name for name, still in left if still == number and name not in row])
    return row


def _is_ask(names, thing):
    """Whether thing is a pair of DUES for just these bills, and an amount."""
    return is_pair(thing) and is_dues((names, ()), thing[0]) and is_amount(thing[1])


def _is_reading(names, thing):
    """Whether thing is a READING of these bills."""
    if not isinstance(thing, tuple) or len(thing) != 3:
        return False
    return _is_ask(names, thing[:2]) and is_dues((names, ()), thing[2])


def _fitting(rows, readings):
    """The LISTs of these that fit."""
    told = frozen(readings)
    return [row for row in rows if all([left_by(row, dues, amount) == left for dues, amount, left in told])]


def _has_ahead(row, one, other):
    """Whether the LIST has both bills, one ahead of other."""
    return one in row and other in row[row.index(one) + 1:]


def _lefts(names, readings, dues, amount):
    """The ascending list of what can be open behind this PAYMENT by a LIST that fits, each once."""
    return sorted(set([left_by(row, dues, amount) for row in lists_fitting(names, readings)]))
