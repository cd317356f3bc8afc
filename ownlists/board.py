"""A board: bills that become due and are paid, lists that change within their frames, deeds that are taken back."""

from ownlists.agree import is_good, odd_pairs
from ownlists.books import list_of
from ownlists.errors import NoBill, NoFrame, NoPayer, Outside, Stopped, Twice
from ownlists.laid import laid, paid
from ownlists.plain import frozen, want_bills, want_once, want_payers

# A state of a Board is a tuple (owed, back, rows, frames), of tuples alone: what is due at each bill, how much was
# given back, the pairs (payer, LIST), the triples (payer, low, high). A deed leads from one state to another one, or
# raises an error: so what is refused has changed nothing, and a deed is taken back by the state ahead of it.


def _done_due(state, bill, amount):
    """The state when so much more is due at this bill."""
    owed, back, rows, frames = state
    want_bills([bill], _bills_of(state))
    more = tuple([(name, number + amount if name == bill else number) for name, number in owed])
    return more, back, rows, frames


def _done_pay(state, payer, amount):
    """The state when this amount is laid by the LIST of this payer."""
    owed, back, rows, frames = state
    left, over = laid(_book_of(state), owed, payer, amount)
    return left, back + over, rows, frames


def _done_set(state, payer, row):
    """The state when this is the LIST of this payer."""
    _want_list(state, row)
    return _with_list(state, payer, row)


def _done_leave(state, payer):
    """The state when this payer is gone, with the frame."""
    owed, back, rows, frames = state
    want_payers([payer], _names_of(state))
    return owed, back, _others(rows, payer), _others(frames, payer)


def _done_add(state, payer, bill):
    """The state when this bill stands behind all others of the LIST, or is left out if it was in it."""
    row = list_of(_book_of(state), payer)
    want_bills([bill], _bills_of(state))
    if bill in row:
        return _with_list(state, payer, tuple([name for name in row if name != bill]))
    return _with_list(state, payer, row + (bill,))


def _done_frame(state, payer, low, high):
    """The state when the LIST of this payer has this frame."""
    owed, back, rows, frames = state
    row = list_of(_book_of(state), payer)
    for bound in (low, high):
        if bound is not None:
            _want_list(state, bound)
    if not _is_within(row, low, high):
        raise Outside(payer)
    return owed, back, rows, tuple(sorted(_others(frames, payer) + ((payer, low, high),)))


def _done_lift(state, payer):
    """The state when the LIST of this payer has no frame."""
    owed, back, rows, frames = state
    want_payers([payer], _names_of(state))
    left = _others(frames, payer)
    if left == frames:
        raise NoFrame(payer)
    return owed, back, rows, left


def _bills_of(state):
    """The set of the bills."""
    return tuple([bill for bill, number in state[0]])


def _names_of(state):
    """The set of the payers."""
    return tuple([payer for payer, row in state[2]])


def _book_of(state):
    """The BOOK of the bills, payers and LISTS."""
    return _bills_of(state), state[2]


def _others(told, payer):
    """Those of these pairs or triples that are not this payer's."""
    return tuple([part for part in told if part[0] != payer])


def _want_list(state, row):
    """Raise NoBill for the first NAME in this row that is no bill, then Twice for the first one that stands twice."""
    want_bills(row, _bills_of(state))
    want_once(row)


def _with_list(state, payer, row):
    """The state when this is the LIST of this payer; raise Outside if it is not within the frame."""
    owed, back, rows, frames = state
    for name, low, high in frames:
        if name == payer and not _is_within(row, low, high):
            raise Outside(payer)
    return owed, back, tuple(sorted(_others(rows, payer) + ((payer, row),))), frames


def _is_above(one, other):
    """Whether one of these LISTS begins with the other one."""
    return one[:len(other)] == other


def _is_within(row, low, high):
    """Whether this LIST is within this frame."""
    return (low is None or _is_above(row, low)) and (high is None or _is_above(high, row))


_DEEDS = {
    "due": _done_due, "pay": _done_pay, "set": _done_set, "leave": _done_leave, "add": _done_add,
    "frame": _done_frame, "lift": _done_lift,
}


def _done_in_turn(state, number, deed):
    """The state when this deed of an attempt, the one with this number, is done; raise Stopped if it is refused."""
    action = _DEEDS[deed[0]]
    told = deed[1:]
    try:
        return action(state, *told)
    except NoBill as no_bill:
        raise Stopped(number, "NoBill", no_bill.name)
    except NoPayer as no_payer:
        raise Stopped(number, "NoPayer", no_payer.name)
    except NoFrame as no_frame:
        raise Stopped(number, "NoFrame", no_frame.name)
    except Twice as twice:
        raise Stopped(number, "Twice", twice.name)
    except Outside as outside:
        raise Stopped(number, "Outside", outside.name)


class Board:
    """Bills with what is due, payers with their LISTS and frames, and the deeds that can be taken back."""

    def __init__(self, bills):
        self._state = (tuple([(bill, 0) for bill in sorted(set(bills))]), 0, (), ())
        # The states ahead of the deeds that are not taken back.
        self._past = []

    def __eq__(self, other):
        return isinstance(other, Board) and self._state == other._state

    def __len__(self):
        return len(self._state[2])

    def __contains__(self, x):
        return x in _names_of(self._state)

    def __getitem__(self, at):
        """The LIST of this payer."""
        if not isinstance(at, str):
            # Python goes through by numbers, backwards, whatever has [ ] and len.
            raise TypeError("the LISTS of a Board are told by the NAMEs of their payers")
        return list_of(_book_of(self._state), at)

    def __setitem__(self, at, worth):
        """Give this payer this LIST."""
        self._keep(_done_set(self._state, at, frozen(worth)))

    def __iadd__(self, other):
        """Put the bill of this pair behind all others of the LIST of the payer, or leave it out."""
        payer, bill = other
        self._keep(_done_add(self._state, payer, bill))
        return self

    def __iter__(self):
        raise TypeError("a Board can not be gone through")

    @property
    def bills(self):
        """The set of the bills."""
        return _bills_of(self._state)

    @property
    def owed(self):
        """What is due at each bill now."""
        return self._state[0]

    @property
    def back(self):
        """How much was given back in all."""
        return self._state[1]

    @property
    def names(self):
        """The set of the payers."""
        return _names_of(self._state)

    @property
    def frames(self):
        """The ascending tuple of the triples (payer, low, high)."""
        return self._state[3]

    def good(self):
        """Whether the BOOK of the bills, payers and LISTS is good."""
        return is_good(_book_of(self._state))

    def odd(self):
        """The set of the payers whose LIST does not agree with that of some other payer."""
        return tuple(sorted(set([payer for pair in odd_pairs(_book_of(self._state)) for payer in pair])))

    def shares(self, payer, amount):
        """On which bills this amount would be laid now, and how much on each."""
        return paid(_book_of(self._state), self.owed, payer, amount)

    def above(self, payer):
        """The set of the other payers whose LISTS are above this one's."""
        row = self[payer]
        return tuple([name for name in self.names if name != payer and _is_above(self[name], row)])

    def doubled(self):
        """The set of the payers whose LIST is that of a payer with a lesser NAME, too."""
        rows = [row for payer, row in self._state[2]]
        return tuple([payer for place, payer in enumerate(self.names) if rows[place] in rows[:place]])

    def effect(self, payer, row):
        """Whether by this LIST, instead of the payer's own, alike, more or less is laid on each bill, or either."""
        own, told = self[payer], frozen(row)
        _want_list(self._state, told)
        if told == own:
            return "alike"
        if _is_above(told, own):
            return "more"
        if _is_above(own, told):
            return "less"
        return "either"

    def due(self, bill, amount):
        """Make so much more due at this bill."""
        self._keep(_done_due(self._state, bill, amount))

    def pay(self, payer, amount):
        """Lay this amount by the LIST of this payer."""
        self._keep(_done_pay(self._state, payer, amount))

    def leave(self, payer):
        """Take away this payer, with the frame."""
        self._keep(_done_leave(self._state, payer))

    def frame(self, payer, low, high):
        """Give the LIST of this payer this frame."""
        self._keep(_done_frame(self._state, payer, frozen(low), frozen(high)))

    def lift(self, payer):
        """Take away the frame of the LIST of this payer."""
        self._keep(_done_lift(self._state, payer))

    def attempt(self, deeds):
        """Do all these deeds, or none."""
        state = self._state
        for number, deed in enumerate(frozen(deeds)):
            state = _done_in_turn(state, number, deed)
        self._keep(state)

    def undo(self):
        """Take back the last deed that is not taken back yet; return whether there was one."""
        if not self._past:
            return False
        self._state = self._past.pop()
        return True

    def twin(self):
        """Another Board in the same state, with the same deeds to take back."""
        other = board_of(*self._state)
        other._past = list(self._past)
        return other

    def _keep(self, state):
        """Keep what a deed led to."""
        self._past.append(self._state)
        self._state = state


def board_of(owed, back, rows, frames):
    """The Board with this due, so much given back, these LISTS and frames, and with no deed to take back."""
    made = Board([bill for bill, number in owed])
    made._state = (owed, back, rows, frames)
    return made
