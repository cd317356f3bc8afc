"""Lists told back: ordinary inputs, edges, wrong answers, and small cases beside all lists, coin by coin."""

import itertools
import unittest

from helping import check_call, check_same, coins, dues_of, listed, rows_of
from ownlists.told import first_unfit, fits, how_many_fitting, is_open_ask, is_readings, lists_fitting, open_ask
from ownlists.told import sure_left, surely_ahead, surely_in, surely_out, told_back

NAMES, TWOS = ("gas", "rent", "tax"), (("gas", 2), ("rent", 2), ("tax", 2))
READINGS = ((TWOS, 3, (("gas", 1), ("rent", 0), ("tax", 2))),)
NOTHING = (("gas", 0), ("rent", 0), ("tax", 0))
CLASH = READINGS + ((TWOS, 1, (("gas", 1), ("rent", 2), ("tax", 2))),)
FIVE = ("a", "ab", "abcdefgh", "b", "zzzzzzzz")
GREAT = 10 ** 40


def left_by(row, dues, amount):
    """What is open behind a PAYMENT by this LIST, coin by coin."""
    return coins(((), (("p", row),)), dues, [("p", amount)], (0,))[0]


def reading_of(row, dues, amount):
    """The READING that this LIST leads to."""
    return dues, amount, left_by(row, dues, amount)


def fitting_slowly(names, readings):
    """The ascending list of the LISTs that fit, in a second way."""
    return sorted(row for row in rows_of(names)
                  if all(left_by(row, dues, amount) == left for dues, amount, left in readings))


class Fitting(unittest.TestCase):

    def test_fits(self):
        for row, readings, fit in (
                (("rent", "gas"), READINGS, True), (("gas", "rent"), READINGS, False), (("rent",), READINGS, False),
                (("rent", "gas", "tax"), READINGS, True), ((), READINGS, False), ((), (), True), (("any",), (), True),
                (("rent", "gas"), CLASH, False), (("gas",), CLASH, False), (("gas",), CLASH[1:], True),
                (("a",), (((("a", GREAT),), GREAT - 1, (("a", 1),)),), True), ((), (((), 5, ()),), True),
                # More is left than was due: no LIST does so.
                ((), (((("a", 1),), 0, (("a", 2),)),), False), (("a",), (((("a", 0),), 3, (("a", 0),)),), True)):
            check_call(self, fits, fit, row=row, readings=readings)

    def test_lists_fitting(self):
        for readings, rows in ((READINGS, [("rent", "gas"), ("rent", "gas", "tax")]), (CLASH, []),
                               (CLASH[1:], [("gas",), ("gas", "rent"), ("gas", "rent", "tax"), ("gas", "tax"),
                                            ("gas", "tax", "rent")]),
                               (((TWOS, 0, TWOS),), sorted(rows_of(NAMES))), (((TWOS, 9, TWOS),), [()]),
                               ((), sorted(rows_of(NAMES)))):
            check_call(self, lists_fitting, rows, names=NAMES, readings=readings)
            check_call(self, how_many_fitting, len(rows), names=NAMES, readings=readings)

    def test_first_unfit(self):
        nothing = (TWOS, 4, TWOS)
        for readings, place in ((READINGS, None), (CLASH, 1), (CLASH[::-1], 1), ((), None), (READINGS * 12, None),
                                (READINGS * 11 + CLASH[1:], 11), ((nothing,) + READINGS, 1),
                                (((TWOS, 1, (("gas", 3), ("rent", 2), ("tax", 2))),) + READINGS, 0),
                                (((TWOS, 1, (("gas", 1), ("rent", 1), ("tax", 2))), nothing), 0),
                                # Each two of these three fit a LIST, all three none.
                                (((TWOS, 1, (("gas", 1), ("rent", 2), ("tax", 2))),
                                  ((("gas", 0), ("rent", 1), ("tax", 1)), 1, (("gas", 0), ("rent", 0), ("tax", 1))),
                                  ((("gas", 0), ("rent", 0), ("tax", 1)), 1, (("gas", 0), ("rent", 0), ("tax", 0))),
                                  (TWOS, 7, (("gas", 0), ("rent", 0), ("tax", 2)))), 3)):
            check_call(self, first_unfit, place, names=NAMES, readings=readings)

    def test_what_is_sure(self):
        for readings, ahead, has, has_not in (
                (READINGS, (("rent", "gas"),), ("gas", "rent"), ()), (CLASH, None, None, None), ((), (), (), ()),
                (((TWOS, 7, (("gas", 2), ("rent", 0), ("tax", 2))),), (), ("rent",), ("gas", "tax")),
                (((TWOS, 7, TWOS),), (), (), NAMES),
                (((TWOS, 5, (("gas", 0), ("rent", 1), ("tax", 0))),), (("gas", "rent"), ("tax", "rent")), NAMES, ())):
            check_call(self, surely_ahead, ahead, names=NAMES, readings=readings)
            check_call(self, surely_in, has, names=NAMES, readings=readings)
            check_call(self, surely_out, has_not, names=NAMES, readings=readings)

    def test_sure_left(self):
        for readings, dues, amount, left in (
                (READINGS, TWOS, 4, (("gas", 0), ("rent", 0), ("tax", 2))), (READINGS, TWOS, 5, None),
                (READINGS, TWOS, 0, TWOS), (CLASH, TWOS, 4, None), (CLASH, TWOS, 0, None), ((), TWOS, 1, None),
                ((), TWOS, 0, TWOS), ((), NOTHING, GREAT, NOTHING),
                (READINGS, (("gas", GREAT), ("rent", GREAT), ("tax", 0)), GREAT + 1,
                 (("gas", GREAT - 1), ("rent", 0), ("tax", 0))),
                (((TWOS, 7, (("gas", 2), ("rent", 0), ("tax", 2))),), TWOS, GREAT,
                 (("gas", 2), ("rent", 0), ("tax", 2)))):
            check_call(self, sure_left, left, names=NAMES, readings=readings, dues=dues, amount=amount)

    def test_asks(self):
        for thing, good in (((TWOS, 5), True), ((TWOS, 4), False), ((TWOS, GREAT), True), ((TWOS, 0), False),
                            (((("gas", 0), ("rent", 0), ("tax", 1)), 1), True), ((TWOS[1:], 5), False),
                            ([TWOS, 5], False), ((list(TWOS), 5), False), ((TWOS, -1), False), ((TWOS, True), False),
                            ((TWOS, 5, 5), False)):
            check_call(self, is_open_ask, good, names=NAMES, readings=READINGS, thing=thing)
            check_call(self, is_open_ask, False, names=NAMES, readings=CLASH, thing=thing)
        for readings in ((), READINGS, CLASH[1:]):
            ask = open_ask(NAMES, readings)
            check_call(self, open_ask, ask, names=NAMES, readings=readings)
            check_call(self, is_open_ask, True, names=NAMES, readings=readings, thing=ask)
        for names, readings in ((NAMES, CLASH), (("gas",), (((("gas", 2),), 1, (("gas", 1),)),)),
                                (NAMES, ((TWOS, 7, TWOS),)),
                                (NAMES, ((TWOS, 1, (("gas", 1), ("rent", 2), ("tax", 2))),
                                         (TWOS, 5, (("gas", 0), ("rent", 0), ("tax", 1)))))):
            check_call(self, open_ask, None, names=names, readings=readings)
            thing = (tuple((name, 2) for name in names), 5)
            check_call(self, is_open_ask, False, names=names, readings=readings, thing=thing)

    def test_is_readings(self):
        zeros = tuple((name, 0) for name in FIVE)
        for names, thing, good in (
                (NAMES, READINGS, True), (NAMES, (), True), (NAMES, CLASH * 200, True),
                (FIVE, ((zeros, GREAT, zeros),), True),
                (NAMES, ((TWOS, 3, TWOS[1:]),), False), (("gas",), READINGS, False), (NAMES, [READINGS[0]], False),
                (NAMES, ((TWOS, 0, tuple((name, GREAT) for name in NAMES)),), True), (("gas",), (), True),
                (NAMES, (list(READINGS[0]),), False), (NAMES, ((TWOS, 3),), False),
                (NAMES, ((TWOS, 3, TWOS, TWOS),), False),
                (NAMES, ((TWOS, -1, TWOS),), False), (NAMES, ((TWOS, True, TWOS),), False), (NAMES, READINGS[0], False),
                (NAMES, ((TWOS, 1, TWOS[::-1]),), False), (NAMES, ((TWOS[::-1], 1, TWOS),), False),
                (NAMES, READINGS + (None,), False), (NAMES, ((TWOS, 3, list(TWOS)),), False)):
            check_call(self, is_readings, good, names=names, thing=thing)

    def test_one_name_and_five_names(self):
        one, two = (("a", 2),), (("a", 1),)
        check_call(self, lists_fitting, [(), ("a",)], names=("a",), readings=())
        check_call(self, lists_fitting, [("a",)], names=("a",), readings=((one, 1, two),))
        check_call(self, surely_ahead, (), names=("a",), readings=((one, 1, two),))
        check_call(self, surely_in, ("a",), names=("a",), readings=((one, 1, two),))
        check_call(self, surely_out, ("a",), names=("a",), readings=((one, 1, one),))
        check_call(self, sure_left, two, names=("a",), readings=((one, 1, two),), dues=one, amount=1)
        check_call(self, is_open_ask, True, names=("a",), readings=(), thing=(one, 2))
        twos = tuple((name, 2) for name in FIVE)
        row = ("zzzzzzzz", "abcdefgh", "a", "b", "ab")
        readings = tuple(reading_of(row, twos, amount) for amount in (3, 7, 11)) * 4
        check_call(self, how_many_fitting, 326, names=FIVE, readings=())
        check_call(self, lists_fitting, [row], names=FIVE, readings=readings)
        check_call(self, surely_in, FIVE, names=FIVE, readings=readings)
        check_call(self, surely_out, (), names=FIVE, readings=readings)
        check_call(self, first_unfit, None, names=FIVE, readings=readings)
        ahead = tuple(sorted(itertools.combinations(row, 2)))
        check_call(self, surely_ahead, ahead, names=FIVE, readings=readings)
        check_call(self, sure_left, twos[:4] + (("zzzzzzzz", 0),), names=FIVE, readings=readings, dues=twos, amount=2)


class Asked:
    """Answers by a LIST, and keeps what was asked."""

    def __init__(self, row, form):
        self.row, self.form, self.asks = row, form, []

    def __call__(self, dues, amount):
        self.asks.append((dues, amount))
        return self.form(left_by(self.row, dues, amount))


class ToldBack(unittest.TestCase):

    def test_all_lists(self):
        for names in (("a",), ("a", "b"), NAMES, ("a", "b", "c", "zz"), FIVE):
            for row in rows_of(names):
                for form in (tuple, listed, list):
                    asker = Asked(row, form)
                    check_same(self, told_back(names, asker), row)
                    self.assertLessEqual(len(asker.asks), (len(names) + 1) // 2)
                    for dues, amount in asker.asks:
                        self.assertIs(type(dues), tuple)
                        self.assertEqual(dues, tuple((name, 2) for name in names))
                        self.assertIs(type(amount), int)

    def test_calls(self):
        for row in ((), ("tax",), ("rent", "gas"), ("tax", "gas", "rent")):
            check_call(self, told_back, row, names=NAMES, asker=lambda dues, amount: left_by(row, dues, amount))
            check_call(self, told_back, row, names=NAMES, asker=lambda dues, amount: listed(left_by(row, dues, amount)))
            # Handed over by position: the asker's own names are no matter.
            check_call(self, told_back, row, names=NAMES, asker=lambda this, that, more=1: left_by(row, this, that))

    def test_what_the_asker_raises_is_passed_on(self):
        class Refused(Exception):
            pass

        for error in (Refused("no"), KeyError("no"), ValueError(), StopIteration(), ZeroDivisionError(), TypeError()):
            def asker(dues, amount):
                raise error

            with self.assertRaises(type(error)) as caught:
                told_back(NAMES, asker)
            self.assertIs(caught.exception, error)

    def test_the_guarantee(self):
        for names in (("a",), ("a", "b"), NAMES, ("a", "b", "c", "zz"), FIVE):
            twos = tuple((name, 2) for name in names)
            amounts = (3, 7, 11)[:(len(names) + 1) // 2]
            told = {tuple(left_by(row, twos, amount) for amount in amounts) for row in rows_of(names)}
            self.assertEqual(len(told), len(rows_of(names)))


class Slowly(unittest.TestCase):

    def check_readings(self, names, readings):
        rows = fitting_slowly(names, readings)
        check_same(self, lists_fitting(names, readings), rows)
        check_same(self, how_many_fitting(names, readings), len(rows))
        for row in rows_of(names):
            self.assertIs(fits(row, readings), row in rows)
        unfit = [place for place in range(len(readings)) if not fitting_slowly(names, readings[:place + 1])]
        check_same(self, first_unfit(names, readings), min(unfit, default=None))
        pairs = [(one, other) for one in names for other in names if one != other]
        ahead = tuple(pair for pair in pairs if all(
            set(pair) <= set(row) and row.index(pair[0]) < row.index(pair[1]) for row in rows))
        check_same(self, surely_ahead(names, readings), ahead if rows else None)
        inside = tuple(name for name in names if all(name in row for row in rows))
        check_same(self, surely_in(names, readings), inside if rows else None)
        outside = tuple(name for name in names if all(name not in row for row in rows))
        check_same(self, surely_out(names, readings), outside if rows else None)
        for dues in list(dues_of(names, (0, 1, 2)))[::4]:
            for amount in range(4):
                lefts = {left_by(row, dues, amount) for row in rows}
                check_same(self, sure_left(names, readings, dues, amount), lefts.pop() if len(lefts) == 1 else None)
                self.assertIs(is_open_ask(names, readings, (dues, amount)), len(lefts) > 1)
        ask = open_ask(names, readings)
        self.assertIs(ask is None, len(rows) < 2)
        if ask is not None:
            self.assertIs(is_open_ask(names, readings, ask), True)

    def test_readings_of_lists(self):
        for names in (("a",), ("a", "b"), ("a", "b", "c")):
            for row in rows_of(names):
                for due, amount in (((2, 2, 2), 1), ((2, 2, 2), 3), ((1, 0, 2), 2), ((0, 3, 1), 2), ((2, 2, 2), 7)):
                    self.check_readings(names, (reading_of(row, tuple(zip(names, due)), amount),))
                    self.check_readings(names, (reading_of(row, tuple(zip(names, due)), amount),
                                                reading_of(row, tuple((name, 1) for name in names), 1)))

    def test_readings_that_clash(self):
        names = ("a", "b", "c")
        for one, other in itertools.product(rows_of(names), repeat=2):
            first = reading_of(one, tuple(zip(names, (2, 1, 1))), 2)
            self.check_readings(names, (first, reading_of(other, tuple(zip(names, (1, 1, 2))), 3)))
        for left in dues_of(names, range(3)):
            self.check_readings(names, ((tuple(zip(names, (1, 2, 1))), 2, left),))

    def test_four_names(self):
        names = ("a", "b", "c", "d")
        for row in rows_of(names)[::7]:
            ones, twos = tuple((name, 1) for name in names), tuple((name, 2) for name in names)
            self.check_readings(names, (reading_of(row, ones, 2),))
            self.check_readings(names, (reading_of(row, ones, 2), reading_of(row, twos, 3)))


if __name__ == "__main__":
    unittest.main()
