"""What the tests of boards need: deeds done to a board, all that can be seen of it, and a slow second way."""

import copy
import itertools

from helping import coins, rests_alike, rows_of
from ownlists.errors import NoBill, NoFrame, NoPayer, Outside, Twice

ERRORS = {"NoBill": NoBill, "NoPayer": NoPayer, "NoFrame": NoFrame, "Twice": Twice, "Outside": Outside}
# The names of the arguments that a deed hands over, where it is done by a method.
ARGUMENTS = {
    "due": ("bill", "amount"), "pay": ("payer", "amount"), "leave": ("payer",), "frame": ("payer", "low", "high"),
    "lift": ("payer",), "attempt": ("deeds",),
}


def done(board, deed, by_names=False):
    """Do this deed, told as in an attempt, to the board; return what it returns.

    By names what is handed over has its names; where there are none it is a list, not a tuple.
    """
    word, *told = deed
    if word == "set":
        board[told[0]] = told[1]
        return None
    if word == "add":
        before = board
        board += told if by_names else tuple(told)
        assert board is before
        return None
    if by_names:
        return getattr(board, word)(**dict(zip(ARGUMENTS[word], told)))
    return getattr(board, word)(*told)


def seen(board):
    """All that can be seen of a board."""
    lists = tuple((payer, board[payer]) for payer in board.names)
    return board.bills, board.owed, board.back, board.names, len(board), lists, board.frames


class Refused(Exception):
    """What the second way raises: the name of the error's class, and the NAME that it keeps."""


class SlowBoard:
    """A board in a second way: coin by coin, with a copy of all ahead of each deed."""

    def __init__(self, bills):
        self.owed = {bill: 0 for bill in bills}
        self.back, self.rows, self.frames = 0, {}, {}
        self.dued = self.paid = 0
        self.past = []

    def seen(self):
        bills, names = tuple(sorted(self.owed)), tuple(sorted(self.rows))
        frames = tuple((payer, *self.frames[payer]) for payer in sorted(self.frames))
        owed = tuple((bill, self.owed[bill]) for bill in bills)
        return bills, owed, self.back, names, len(names), tuple((payer, self.rows[payer]) for payer in names), frames

    def book(self):
        return tuple(sorted(self.owed)), tuple(sorted(self.rows.items()))

    def now(self):
        return copy.deepcopy((self.owed, self.back, self.rows, self.frames, self.dued, self.paid))

    def go_back(self, state):
        self.owed, self.back, self.rows, self.frames, self.dued, self.paid = state

    def do(self, deed):
        """Do the deed; raise Refused, and change nothing, if it can't be done."""
        before = self.now()
        try:
            if deed[0] == "attempt":
                for number, inner in enumerate(deed[1]):
                    try:
                        self.change(*inner)
                    except Refused as refused:
                        raise Refused("Stopped", number, *refused.args) from None
            else:
                self.change(*deed)
        except Refused:
            self.go_back(before)
            raise
        self.past.append(before)

    def undo(self):
        if self.past:
            self.go_back(self.past.pop())
            return True
        return False

    def want_payer(self, payer):
        if payer not in self.rows:
            raise Refused("NoPayer", payer)

    def want_row(self, row):
        for name in row:
            if name not in self.owed:
                raise Refused("NoBill", name)
        for place, name in enumerate(row):
            if row.index(name) < place:
                raise Refused("Twice", name)

    def want_within(self, payer, row, low, high):
        if low is not None and list(row)[:len(low)] != list(low):
            raise Refused("Outside", payer)
        if high is not None and list(high)[:len(row)] != list(row):
            raise Refused("Outside", payer)

    def change(self, word, name, *told):
        if word == "due":
            if name not in self.owed:
                raise Refused("NoBill", name)
            self.owed[name] += told[0]
            self.dued += told[0]
        elif word == "set":
            self.want_row(told[0])
            self.want_within(name, told[0], *self.frames.get(name, (None, None)))
            self.rows[name] = tuple(told[0])
        else:
            self.want_payer(name)
            self.change_of_payer(word, name, *told)

    def change_of_payer(self, word, name, *told):
        if word == "pay":
            end, moments, triples, back = coins(self.book(), tuple(self.owed.items()), [(name, told[0])], (0,))
            self.owed, self.back, self.paid = dict(end), self.back + back[0], self.paid + told[0]
        elif word == "leave":
            del self.rows[name]
            self.frames.pop(name, None)
        elif word == "add":
            if told[0] not in self.owed:
                raise Refused("NoBill", told[0])
            row = [bill for bill in self.rows[name] if bill != told[0]]
            if len(row) == len(self.rows[name]):
                row.append(told[0])
            self.want_within(name, row, *self.frames.get(name, (None, None)))
            self.rows[name] = tuple(row)
        elif word == "frame":
            for bound in told:
                if bound is not None:
                    self.want_row(bound)
            self.want_within(name, self.rows[name], *told)
            self.frames[name] = tuple(told)
        else:
            if name not in self.frames:
                raise Refused("NoFrame", name)
            del self.frames[name]

    def odd(self):
        pairs = itertools.combinations(sorted(self.rows), 2)
        odd = [pair for pair in pairs if not rests_alike(self.rows[pair[0]], self.rows[pair[1]])]
        return tuple(sorted({payer for pair in odd for payer in pair}))

    def above(self, payer):
        row = self.rows[payer]
        return tuple(name for name in sorted(self.rows) if name != payer and self.rows[name][:len(row)] == row)

    def doubled(self):
        return tuple(name for name in sorted(self.rows)
                     if any(other < name and self.rows[other] == self.rows[name] for other in self.rows))

    def shares(self, payer, amount):
        triples = coins(self.book(), tuple(self.owed.items()), [(payer, amount)], (0,))[2]
        number = {bill: share for name, bill, share in triples}
        return tuple((bill, number[bill]) for bill in self.rows[payer] if bill in number)

    def effect(self, payer, row):
        own = self.rows[payer]
        for word, holds in (("alike", own == row), ("more", row[:len(own)] == own), ("less", own[:len(row)] == row)):
            if holds:
                return word
        return "either"


class Walk:
    """A row of deeds, told by numbers that a generator gives: good ones, wrong ones, attempts."""

    def __init__(self, chance, bills, owners):
        self.chance, self.bills, self.owners = chance, bills, owners
        self.rows = rows_of(bills)

    def payer(self):
        return self.chance.choice(self.owners)

    def bill(self):
        return self.chance.choice(self.bills + self.bills + ("x",))

    def row(self):
        if self.chance.random() < 0.2:
            return tuple(self.bill() for turn in range(self.chance.randrange(4)))
        return self.chance.choice(self.rows)

    def bounds(self):
        row = self.row()
        low = None if self.chance.random() < 0.4 else row[:self.chance.randrange(len(row) + 1)]
        return low, None if self.chance.random() < 0.4 else row

    def deed(self):
        word = self.chance.choice(("due", "pay", "set", "set", "leave", "add", "add", "frame", "frame", "lift"))
        if word == "due":
            return word, self.bill(), self.chance.randrange(1, 6)
        if word == "pay":
            return word, self.payer(), self.chance.randrange(1, 8)
        if word == "set":
            return word, self.payer(), self.row()
        if word == "add":
            return word, self.payer(), self.bill()
        if word == "frame":
            return (word, self.payer()) + self.bounds()
        return word, self.payer()

    def step(self):
        """A deed, an attempt of some deeds, or "undo"."""
        lot = self.chance.random()
        if lot < 0.15:
            return ("undo",)
        if lot < 0.3:
            return "attempt", tuple(self.deed() for turn in range(self.chance.randrange(4)))
        return self.deed()
