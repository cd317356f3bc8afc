"""A board: properties, methods, deeds, errors, and walks of deeds beside a slow second way."""

import itertools
import random
import unittest

from boards import ERRORS, Refused, SlowBoard, Walk, done, seen
from helping import FORMS, check_same, dues_of, listed, rows_of
from ownlists import errors
from ownlists.agree import is_good
from ownlists.board import Board
from ownlists.errors import NoBill, NoFrame, NoPayer, Outside, Stopped, Twice
from ownlists.laid import paid

BILLS = ("food", "gas", "rent")
GREAT = 10 ** 40


def filled():
    """A board with all that a board can have."""
    board = Board(("rent", "gas", "food"))
    board["ann"], board["bob"], board["cid"] = ("rent", "gas"), ("rent",), ("gas", "food")
    board.due("rent", 5)
    board.due("gas", 7)
    board.pay("bob", 7)
    board.frame("bob", (), ("rent", "gas"))
    board.frame("cid", None, None)
    return board


FILLED = (BILLS, (("food", 0), ("gas", 7), ("rent", 0)), 2, ("ann", "bob", "cid"), 3,
          (("ann", ("rent", "gas")), ("bob", ("rent",)), ("cid", ("gas", "food"))),
          (("bob", (), ("rent", "gas")), ("cid", None, None)))


class Boards(unittest.TestCase):
    """What several classes of tests check."""

    def check_seen(self, board, *expected):
        check_same(self, seen(board), expected)

    def check_deed(self, deed, after, made=filled):
        """The deed returns None, leads to just this, and is taken back: with lists for tuples, and by names."""
        for form in FORMS:
            for by_names in (False, True):
                board = made()
                before = seen(board)
                handed = tuple([deed[0], *[form(part) for part in deed[1:]]])
                kept = repr(handed)
                self.assertIsNone(done(board, handed, by_names))
                check_same(self, seen(board), after)
                self.assertEqual(repr(handed), kept)
                self.assertIs(board.undo(), True)
                check_same(self, seen(board), before)
        board = made()
        if deed[0] == "attempt":
            return
        for deeds in (listed((deed,)), (listed(deed),), (deed,)):
            self.assertIsNone(board.attempt(deeds))
            check_same(self, seen(board), after)
            board.undo()

    def check_refused(self, deed, error, made=filled):
        """The deed raises this error and changes nothing; an attempt with it is stopped and changes nothing."""
        for form in FORMS:
            for by_names in (False, True):
                board, still = made(), made()
                handed = tuple([deed[0], *[form(part) for part in deed[1:]]])
                with self.assertRaises(type(error).__bases__[0]) as caught:
                    done(board, handed, by_names)
                self.assertIs(type(caught.exception), type(error))
                check_same(self, vars(caught.exception), vars(error))
                self.assertTrue(board == still)
                check_same(self, seen(board), seen(still))
                self.check_same_past(board, still)
        if deed[0] != "attempt":
            stopped = Stopped(1, type(error).__name__, error.name)
            self.check_refused(("attempt", (("due", "gas", 3), deed, ("pay", "nobody", 1))), stopped, made)

    def check_same_past(self, one, other):
        """By undo both boards go the same way back."""
        one, other = one.twin(), other.twin()
        while one.undo():
            self.assertIs(other.undo(), True)
            check_same(self, seen(one), seen(other))
        self.assertIs(other.undo(), False)


class Properties(Boards):

    def test_a_new_board(self):
        for bills in ((), ("a",), ("b", "a"), ("b", "a", "b", "b"), ("zzzzzzzz", "abcdefgh"), tuple("fedcba")):
            for form in FORMS:
                for board in (Board(form(bills)), Board(bills=form(bills))):
                    names = tuple(sorted(set(bills)))
                    self.check_seen(board, names, tuple((name, 0) for name in names), 0, (), 0, (), ())
                    check_same(self, (board.good(), board.odd(), board.doubled(), board.undo()), (True, (), (), False))

    def test_properties(self):
        self.check_seen(filled(), *FILLED)
        for name in ("ann", "bob", "cid"):
            self.assertIs(name in filled(), True)
        for name in ("dan", "gas", "", "an", "annn"):
            self.assertIs(name in filled(), False)
            self.assertIs(name not in filled(), True)

    def test_properties_are_not_assigned(self):
        board = filled()
        for name in ("bills", "owed", "back", "names", "frames"):
            with self.assertRaises(AttributeError):
                setattr(board, name, ())
        self.check_seen(board, *FILLED)

    def test_a_board_can_not_be_gone_through(self):
        for board in (filled(), Board(("a", "b")), Board(())):
            for way in (iter, list, tuple, sorted, set, sum, enumerate, dict, ", ".join, lambda board: [*board],
                        lambda board: [name for name in board], lambda board: list(zip(board, board))):
                with self.assertRaises(TypeError):
                    way(board)
            with self.assertRaises(TypeError):
                one, other = board
        with self.assertRaises(TypeError):
            list(reversed(filled()))

    def test_the_list_of_a_payer(self):
        board = filled()
        check_same(self, (board["ann"], board["bob"], board["cid"]), (("rent", "gas"), ("rent",), ("gas", "food")))
        for name in ("dan", "gas", "rent", "", "An", "no name"):
            with self.assertRaises(LookupError) as caught:
                board[name]
            self.assertIs(type(caught.exception), NoPayer)
            self.assertEqual(vars(caught.exception), {"name": name})


class Equal(Boards):

    def test_equal_boards(self):
        for one, other in ((Board(()), Board([])), (Board(("b", "a")), Board(["a", "b", "a"])), (filled(), filled()),
                           (filled(), filled().twin())):
            self.assertIs(one == other, True)
            self.assertIs(one != other, False)
            self.assertIs(one == one, True)
        # How it came to be is no matter.
        board = Board(BILLS)
        board.attempt((("set", "ann", ()), ("leave", "ann")))
        self.assertIs(board == Board(BILLS), True)

    def test_each_difference_counts(self):
        for deed in (("due", "gas", 1), ("pay", "ann", 1), ("pay", "bob", 1), ("set", "ann", ("gas", "rent")),
                     ("leave", "ann"), ("set", "dan", ()), ("add", "ann", "food"), ("lift", "bob"),
                     ("frame", "bob", None, None), ("frame", "bob", (), None), ("leave", "cid"),
                     ("frame", "bob", ("rent",), ("rent", "gas"))):
            board = filled()
            done(board, deed)
            self.assertIs(board == filled(), False)
            self.assertIs(filled() == board, False)
            self.assertIs(board != filled(), True)
        self.assertIs(Board(("a",)) == Board(()), False)
        self.assertIs(Board(("a",)) == Board(("a", "b")), False)

    def test_nothing_else_is_equal(self):
        board = filled()
        others = (0, 1, 3, -1, GREAT, True, False, None, "", "ann", (), [], {}, seen(board), list(seen(board)),
                  (board,), [board], board.names, list(board.names), errors.NoBill("ann"), errors.BadText(),
                  Board, object(), 1.5)
        for other in others:
            self.assertIs(board == other, False)
            self.assertIs(other == board, False)
            self.assertIs(board != other, True)
        for empty in ((), [], "", 0, None, False):
            self.assertIs(Board(()) == empty, False)


class Asked(Boards):

    def check_asked(self, name, expected, **arguments):
        """The method returns just this, by position and by name, and changes nothing."""
        for form in FORMS:
            board, handed = filled(), {key: form(value) for key, value in arguments.items()}
            check_same(self, getattr(board, name)(*handed.values()), expected)
            check_same(self, getattr(board, name)(**handed), expected)
            self.check_seen(board, *FILLED)
            self.check_same_past(board, filled())

    def check_wrong(self, name, error, **arguments):
        for form in FORMS:
            board, handed = filled(), {key: form(value) for key, value in arguments.items()}
            for call in (lambda: getattr(board, name)(*handed.values()), lambda: getattr(board, name)(**handed)):
                with self.assertRaises(type(error).__bases__[0]) as caught:
                    call()
                self.assertIs(type(caught.exception), type(error))
                check_same(self, vars(caught.exception), vars(error))
            self.check_seen(board, *FILLED)
            self.check_same_past(board, filled())

    def test_shares(self):
        for payer, amount, shares in (("ann", 8, (("gas", 7),)), ("ann", 3, (("gas", 3),)), ("ann", 0, ()),
                                      ("bob", 4, ()), ("cid", GREAT, (("gas", 7),))):
            self.check_asked("shares", shares, payer=payer, amount=amount)
        board = Board(BILLS)
        board["ann"] = ("rent", "gas")
        board.due("rent", 5)
        board.due("gas", GREAT)
        check_same(self, board.shares("ann", 8), (("rent", 5), ("gas", 3)))
        check_same(self, board.shares("ann", 2 * GREAT), (("rent", 5), ("gas", GREAT)))
        for name in ("dan", "gas", ""):
            self.check_wrong("shares", NoPayer(name), payer=name, amount=1)

    def test_good_and_odd(self):
        board = filled()
        check_same(self, (board.good(), board.odd()), (False, ("ann", "bob", "cid")))
        board.leave("ann")
        check_same(self, (board.good(), board.odd()), (True, ()))
        board["dan"], board["eve"] = ("food", "gas"), ("food", "gas")
        check_same(self, (board.good(), board.odd()), (True, ()))
        board["fay"] = ("food",)
        check_same(self, (board.good(), board.odd()), (False, ("dan", "eve", "fay")))
        self.check_asked("good", False)
        self.check_asked("odd", ("ann", "bob", "cid"))

    def test_above_and_doubled(self):
        self.check_asked("above", ("ann",), payer="bob")
        self.check_asked("above", (), payer="ann")
        self.check_asked("doubled", ())
        for name in ("dan", "rent", ""):
            self.check_wrong("above", NoPayer(name), payer=name)
        board = filled()
        board["dan"], board["eve"], board["aaa"], board["fay"] = ("rent",), (), ("gas", "food"), ("rent",)
        check_same(self, board.doubled(), ("cid", "dan", "fay"))
        check_same(self, board.above("eve"), ("aaa", "ann", "bob", "cid", "dan", "fay"))
        check_same(self, board.above("bob"), ("ann", "dan", "fay"))
        check_same(self, board.above("cid"), ("aaa",))

    def test_effect(self):
        for payer, row, word in (
                ("cid", ("gas",), "less"), ("cid", ("food", "gas"), "either"), ("bob", ("rent", "food"), "more"),
                ("ann", ("rent", "gas"), "alike"), ("ann", (), "less"), ("bob", (), "less"),
                ("bob", ("gas",), "either"), ("cid", ("gas", "food", "rent"), "more"),
                ("ann", ("rent", "food"), "either"), ("bob", ("rent",), "alike")):
            self.check_asked("effect", word, payer=payer, row=row)
        board = filled()
        board["eve"] = ()
        check_same(self, (board.effect("eve", ()), board.effect("eve", ("gas",))), ("alike", "more"))

    def test_wrong_effects(self):
        for payer, row, error in (
                ("dan", ("tax",), NoPayer("dan")), ("gas", (), NoPayer("gas")),
                ("ann", ("gas", "tax", "gas"), NoBill("tax")),
                ("ann", ("gas", "gas", "tax", "car"), NoBill("tax")), ("ann", ("ann",), NoBill("ann")),
                ("ann", ("gas", "rent", "rent", "gas"), Twice("rent")), ("bob", ("gas", "rent", "gas"), Twice("gas")),
                ("dan", ("gas", "gas"), NoPayer("dan"))):
            self.check_wrong("effect", error, payer=payer, row=row)


class Deeds(Boards):

    def check_changed(self, deed, made=filled, **changes):
        """The deed leads to what there was, but for these changes."""
        bills, owed, back, names, many, lists, frames = seen(made())
        owed, lists, frames = dict(owed), dict(lists), {name: (low, high) for name, low, high in frames}
        for place, table in (("owed", owed), ("lists", lists), ("frames", frames)):
            for name, value in changes.get(place, {}).items():
                table[name] = value
                if value is None:
                    del table[name]
        after = (bills, tuple(sorted(owed.items())), changes.get("back", back), tuple(sorted(lists)), len(lists),
                 tuple(sorted(lists.items())), tuple((name, *frames[name]) for name in sorted(frames)))
        self.check_deed(deed, after, made)

    def test_due(self):
        self.check_changed(("due", "gas", 1), owed={"gas": 8})
        self.check_changed(("due", "food", GREAT), owed={"food": GREAT})
        for name in ("tax", "ann", "", "foods"):
            self.check_refused(("due", name, 1), NoBill(name))

    def test_pay(self):
        self.check_changed(("pay", "ann", 3), owed={"gas": 4})
        self.check_changed(("pay", "ann", 7), owed={"gas": 0})
        self.check_changed(("pay", "cid", GREAT), owed={"gas": 0}, back=GREAT - 5)
        self.check_changed(("pay", "bob", 1), back=3)
        for name in ("dan", "gas", ""):
            self.check_refused(("pay", name, 1), NoPayer(name))
        self.check_refused(("pay", "a", 1), NoPayer("a"), lambda: Board(("a", "gas")))

    def test_set(self):
        self.check_changed(("set", "ann", ("gas", "rent", "food")), lists={"ann": ("gas", "rent", "food")})
        self.check_changed(("set", "ann", ("rent", "gas")))
        self.check_changed(("set", "dan", ()), lists={"dan": ()})
        self.check_changed(("set", "gas", ("gas",)), lists={"gas": ("gas",)})
        self.check_changed(("set", "bob", ("rent", "gas")), lists={"bob": ("rent", "gas")})
        self.check_changed(("set", "bob", ()), lists={"bob": ()})
        self.check_changed(("set", "cid", ("rent",)), lists={"cid": ("rent",)})
        self.check_changed(("set", "a", ()), lambda: Board(()), lists={"a": ()})
        for payer, row, error in (
                ("ann", ("tax",), NoBill("tax")), ("dan", ("gas", "gas", "tax", "car"), NoBill("tax")),
                ("dan", ("gas", "rent", "rent", "gas"), Twice("rent")), ("bob", ("gas",), Outside("bob")),
                ("bob", ("gas", "tax"), NoBill("tax")), ("bob", ("gas", "gas"), Twice("gas")),
                ("bob", ("rent", "gas", "food"), Outside("bob")), ("bob", ("rent", "food"), Outside("bob"))):
            self.check_refused(("set", payer, row), error)

    def test_leave(self):
        self.check_changed(("leave", "ann"), lists={"ann": None})
        self.check_changed(("leave", "bob"), lists={"bob": None}, frames={"bob": None})
        for name in ("dan", "gas", ""):
            self.check_refused(("leave", name), NoPayer(name))
        board = filled()
        board.leave("bob")
        # Whoever comes back has no frame.
        board["bob"] = ("food", "rent")
        check_same(self, board.frames, (("cid", None, None),))

    def test_add(self):
        self.check_changed(("add", "ann", "food"), lists={"ann": ("rent", "gas", "food")})
        self.check_changed(("add", "ann", "rent"), lists={"ann": ("gas",)})
        self.check_changed(("add", "ann", "gas"), lists={"ann": ("rent",)})
        self.check_changed(("add", "bob", "gas"), lists={"bob": ("rent", "gas")})
        self.check_changed(("add", "bob", "rent"), lists={"bob": ()})
        for payer, bill, error in (
                ("dan", "tax", NoPayer("dan")), ("dan", "gas", NoPayer("dan")), ("ann", "tax", NoBill("tax")),
                ("bob", "tax", NoBill("tax")), ("bob", "food", Outside("bob")), ("ann", "ann", NoBill("ann"))):
            self.check_refused(("add", payer, bill), error)

    def test_frame(self):
        for payer, low, high in (("ann", (), ("rent", "gas")), ("ann", ("rent", "gas"), ("rent", "gas", "food")),
                                 ("ann", ("rent", "gas"), ("rent", "gas")), ("ann", None, None),
                                 ("ann", None, ("rent", "gas")),
                                 ("ann", ("rent",), None), ("bob", None, None), ("bob", ("rent",), None),
                                 ("bob", (), ("rent", "gas")), ("cid", (), None)):
            self.check_changed(("frame", payer, low, high), frames={payer: (low, high)})
        for payer, low, high, error in (
                ("dan", ("tax",), ("tax",), NoPayer("dan")), ("ann", ("tax",), ("car",), NoBill("tax")),
                ("ann", ("rent", "rent"), ("car",), Twice("rent")), ("ann", ("gas",), ("car",), NoBill("car")),
                ("ann", ("gas",), ("gas", "gas"), Twice("gas")), ("ann", None, ("car",), NoBill("car")),
                ("ann", None, ("rent", "gas", "rent"), Twice("rent")),
                ("ann", ("rent", "rent", "tax"), None, NoBill("tax")),
                ("ann", ("gas",), None, Outside("ann")), ("ann", None, ("rent",), Outside("ann")),
                ("ann", None, ("rent", "food", "gas"), Outside("ann")), ("bob", ("rent", "gas"), None, Outside("bob")),
                ("bob", None, (), Outside("bob")), ("ann", ("rent", "gas", "food"), ("rent",), Outside("ann"))):
            self.check_refused(("frame", payer, low, high), error)

    def test_lift(self):
        self.check_changed(("lift", "bob"), frames={"bob": None})
        self.check_changed(("lift", "cid"), frames={"cid": None})
        self.check_refused(("lift", "ann"), NoFrame("ann"))
        for name in ("dan", "gas", ""):
            self.check_refused(("lift", name), NoPayer(name))

    def test_attempt(self):
        self.check_changed(("attempt", ()))
        deeds = (("due", "food", 2), ("set", "dan", ("food",)), ("pay", "dan", 3), ("leave", "ann"))
        self.check_changed(("attempt", deeds), owed={"food": 0}, back=3, lists={"dan": ("food",), "ann": None})
        self.check_changed(("attempt", (("lift", "bob"), ("add", "bob", "food"), ("frame", "bob", ("rent",), None))),
                           lists={"bob": ("rent", "food")}, frames={"bob": (("rent",), None)})
        for deeds, stopped in (
                ((("due", "food", 1), ("add", "bob", "food")), Stopped(1, "Outside", "bob")),
                ((("leave", "dan"), ("due", "tax", 1)), Stopped(0, "NoPayer", "dan")),
                ((("due", "tax", 1), ("leave", "dan")), Stopped(0, "NoBill", "tax")),
                ((("set", "dan", ()), ("leave", "dan"), ("pay", "dan", 1)), Stopped(2, "NoPayer", "dan")),
                ((("set", "dan", ()), ("lift", "dan")), Stopped(1, "NoFrame", "dan")),
                ((("frame", "ann", ("gas", "gas"), None),), Stopped(0, "Twice", "gas")),
                ((("frame", "ann", ("rent", "gas"), None), ("add", "ann", "gas")), Stopped(1, "Outside", "ann"))):
            self.check_refused(("attempt", deeds), stopped)


class Undo(Boards):

    def test_what_changes_nothing_is_a_deed(self):
        board = filled()
        before = seen(board)
        board["ann"] = ("rent", "gas")
        board.attempt(())
        board.frame("cid", None, None)
        check_same(self, seen(board), before)
        for turn in range(3):
            self.assertIs(board.undo(), True)
            check_same(self, seen(board), before)
        # Then the deeds of filled come.
        self.assertIs(board.undo(), True)
        check_same(self, board.frames, (("bob", (), ("rent", "gas")),))

    def test_an_attempt_is_one_deed(self):
        board = filled()
        board.attempt((("due", "food", 1), ("due", "gas", 1), ("leave", "cid")))
        self.assertIs(board.undo(), True)
        self.check_seen(board, *FILLED)
        self.check_same_past(board, filled())

    def test_what_is_refused_is_not_taken_back(self):
        board = filled()
        board.due("food", 1)
        for deed in (("due", "tax", 1), ("pay", "dan", 1), ("add", "bob", "food"), ("lift", "ann"),
                     ("attempt", (("due", "gas", 1), ("leave", "dan")))):
            with self.assertRaises((LookupError, ValueError)):
                done(board, deed)
        self.assertIs(board.undo(), True)
        self.check_seen(board, *FILLED)

    def test_undo_of_nothing(self):
        board = Board(("a",))
        self.assertIs(board.undo(), False)
        board.due("a", 1)
        self.assertIs(board.undo(), True)
        self.assertIs(board.undo(), False)
        self.assertIs(board.undo(), False)
        self.assertTrue(board == Board(("a",)))

    def test_a_frame_in_the_place_of_an_earlier_one(self):
        board = filled()
        board.frame("bob", None, None)
        board["bob"] = ("gas", "food")
        with self.assertRaises(Outside):
            board.frame("bob", (), ("rent", "gas"))
        board.undo()
        board.undo()
        self.check_seen(board, *FILLED)

    def test_140_deeds(self):
        board = Board(("a", "b"))
        board["p"] = ("a", "b")
        for turn in range(139):
            board.due("a", 2) if turn in (0, 70) else board.pay("p", 1)
        self.assertEqual((board.owed, board.back), ((("a", 0), ("b", 0)), 133))
        for turn in range(140):
            self.assertIs(board.undo(), True)
        self.assertIs(board.undo(), False)
        self.assertTrue(board == Board(("a", "b")))


class Copies(Boards):

    def test_what_was_handed_in_may_change(self):
        bills, row, low, high = ["rent", "gas"], ["rent"], ["rent"], ["rent", "gas"]
        deeds = [["set", "bob", row], ["frame", "bob", low, high]]
        board = Board(bills)
        board["ann"] = row
        board.attempt(deeds)
        board.frame("ann", low, high)
        before = seen(board)
        bills.append("tax")
        row.append("gas")
        low.clear()
        high.reverse()
        deeds[1][1] = "ann"
        deeds.clear()
        check_same(self, seen(board), before)
        self.assertIs(board.undo(), True)
        board.frame("ann", ["rent"], ["rent", "gas"])
        check_same(self, seen(board), before)

    def test_twin(self):
        board = filled()
        other = board.twin()
        self.assertIsNot(board, other)
        self.assertTrue(board == other)
        self.check_same_past(board, other)
        other.due("gas", 1)
        other["bob"] = ()
        self.check_seen(board, *FILLED)
        self.check_same_past(board, filled())
        again = other.twin()
        while board.undo():
            pass
        self.assertIs(board.undo(), False)
        check_same(self, seen(other), seen(again))
        self.assertEqual(other.owed, (("food", 0), ("gas", 8), ("rent", 0)))
        for turn in range(2):
            self.assertIs(other.undo(), True)
        self.check_seen(other, *FILLED)
        self.check_same_past(other, filled())

    def test_twins_are_not_deeds(self):
        board = filled()
        board.twin().due("gas", 1)
        self.check_same_past(board, filled())


class Walks(Boards):

    def check_asked(self, board, slow, walk):
        check_same(self, seen(board), slow.seen())
        check_same(self, board.odd(), slow.odd())
        self.assertIs(board.good(), slow.odd() == ())
        self.assertIs(board.good(), is_good(slow.book()))
        check_same(self, board.doubled(), slow.doubled())
        for payer in walk.owners:
            self.assertIs(payer in board, payer in slow.rows)
            if payer in slow.rows:
                amount, row = walk.chance.randrange(9), walk.chance.choice(walk.rows)
                check_same(self, board.shares(payer, amount), slow.shares(payer, amount))
                check_same(self, board.above(payer), slow.above(payer))
                check_same(self, board.effect(payer, row), slow.effect(payer, row))

    def check_promises(self, board, slow):
        """The frames hold; all that was due is due still or laid; all that was paid is laid or given back."""
        for payer, low, high in board.frames:
            row = board[payer]
            self.assertEqual(row[:len(low or ())], low or ())
            self.assertEqual((high or row)[:len(row)], row)
        still = sum(number for bill, number in board.owed)
        self.assertEqual(slow.dued - still, slow.paid - board.back)

    def step(self, board, slow, deed):
        """Do the step to both; whether it was refused."""
        if deed == ("undo",):
            self.assertIs(board.undo(), slow.undo())
            return False
        before = seen(board)
        try:
            slow.do(deed)
        except Refused as refused:
            kind, *told = refused.args
            error = Stopped(*told) if kind == "Stopped" else ERRORS[kind](*told)
            with self.assertRaises(type(error)) as caught:
                done(board, deed)
            self.assertIs(type(caught.exception), type(error))
            check_same(self, vars(caught.exception), vars(error))
            check_same(self, seen(board), before)
            return True
        self.assertIsNone(done(board, deed))
        return False

    def walk(self, seed, bills, owners, steps):
        walk = Walk(random.Random(seed), bills, owners)
        board, slow = Board(bills), SlowBoard(bills)
        refusals = 0
        for turn in range(steps):
            refusals += self.step(board, slow, walk.step())
            self.check_asked(board, slow, walk)
            self.check_promises(board, slow)
            if turn % 20 == 19:
                # The twin goes on alone, and nothing of that is seen here.
                twin = board.twin()
                self.assertTrue(twin == board)
                done(twin, ("due", bills[0], 1))
                twin.attempt((("set", "new", ()), ("frame", "new", (), ())))
        self.assertTrue(0 < refusals < steps)
        while slow.undo():
            self.assertIs(board.undo(), True)
            check_same(self, seen(board), slow.seen())
        self.assertIs(board.undo(), False)
        self.assertTrue(board == Board(bills))

    def test_walks(self):
        for seed in range(150):
            self.walk(seed, ("a", "b", "c"), ("p", "q", "r"), 80)

    def test_great_boards(self):
        for seed in range(12):
            self.walk(seed, tuple("abcdef"), tuple("opqrstuv"), 140)


class Guarantees(unittest.TestCase):

    def test_a_list_above_another_one_lays_no_less_on_each_bill(self):
        names = ("a", "b", "c")
        for one, other in itertools.product(rows_of(names), repeat=2):
            book = (names, (("p", one), ("q", other)))
            no_less = True
            for dues in dues_of(names, range(3)):
                for amount in range(8):
                    by_one, by_other = dict(paid(book, dues, "p", amount)), dict(paid(book, dues, "q", amount))
                    no_less = no_less and all(by_one.get(bill, 0) >= by_other.get(bill, 0) for bill in names)
            self.assertEqual(no_less, one[:len(other)] == other)
            board = Board(names)
            board["p"], board["q"] = one, other
            self.assertEqual("p" in board.above("q"), no_less)
            self.assertEqual(board.effect("q", one) in ("alike", "more"), no_less)


if __name__ == "__main__":
    unittest.main()
