"""What several files need: kinds of values, and values without lists."""

import unittest

from helping import check_raises, check_same, rows_of, sets_of
from ownlists import plain
from ownlists.errors import NoBill, NoPayer, Twice


class Plain(unittest.TestCase):

    def test_numbers(self):
        for thing in (0, 1, -1, 10 ** 40, -10 ** 40):
            self.assertIs(plain.is_number(thing), True)
            self.assertIs(plain.is_amount(thing), thing >= 0)
        for thing in (True, False, None, "1", "", (), (1,), [1]):
            self.assertIs(plain.is_number(thing), False)
            self.assertIs(plain.is_amount(thing), False)

    def test_names(self):
        for thing in ("a", "z", "rent", "abcdefgh", "zzzzzzzz"):
            self.assertIs(plain.is_name(thing), True)
        for thing in ("", "abcdefghi", "A", "renT", "a b", " a", "a ", "a1", "-", "`", "{", "\u00e9", "\u00aa", "a\n"):
            self.assertIs(plain.is_name(thing), False)
        for thing in (0, True, None, (), ("a",), ["a"], b"a"):
            self.assertIs(plain.is_name(thing), False)

    def test_rows_of_names(self):
        for thing, names, row, ascending in (
                ((), True, True, True), (("a",), True, True, True), (("a", "b"), True, True, True),
                (("b", "a"), True, True, False), (("a", "a"), True, False, False), (("b", "a", "b"), True, False, False),
                (["a"], False, False, False), (("a", 1), False, False, False), (("a", ["b"]), False, False, False),
                ("ab", False, False, False), (None, False, False, False)):
            self.assertIs(plain.is_names(thing), names)
            self.assertIs(plain.is_list(thing), row)
            self.assertIs(plain.is_name_set(thing), ascending)

    def test_pairs(self):
        for thing in ((1, 2), ((), ())):
            self.assertIs(plain.is_pair(thing), True)
        for thing in ([1, 2], (1,), (1, 2, 3), (), "ab", None):
            self.assertIs(plain.is_pair(thing), False)
        for thing in ((), (("a", 0),), (("b", 1), ("a", 2), ("a", 10 ** 50))):
            self.assertIs(plain.is_amounts(thing), True)
        for thing in ([], (("a", -1),), (("a", True),), (["a", 1],), (("a", 1, 1),), (("A", 1),), (("a",),), ("ab",)):
            self.assertIs(plain.is_amounts(thing), False)

    def test_tuples_for_lists(self):
        for value in (1, True, None, "ab", (), (1, ("a", ()))):
            check_same(self, plain.frozen(value), value)
        given = [1, ["a", ([None],)]]
        check_same(self, plain.frozen(given), (1, ("a", ((None,),))))
        check_same(self, given, [1, ["a", ([None],)]])

    def test_the_first_and_the_least(self):
        self.assertEqual(plain.first_not_in(("b", "d", "c"), ("a", "b")), "d")
        self.assertIsNone(plain.first_not_in(("b", "a"), ("a", "b")))
        self.assertIsNone(plain.first_not_in((), ()))
        self.assertEqual(plain.first_double(("c", "b", "a", "a", "b", "c")), "a")
        self.assertEqual(plain.first_double(("c", "b", "c", "b")), "c")
        self.assertIsNone(plain.first_double(("c", "a", "b")))
        self.assertIsNone(plain.first_double(()))
        for one, other, place in ((("a",), (), 0), (("a",), ("b",), 0), (("a", "b"), ("a",), 1),
                                  (("a", "b", "c"), ("a", "c", "b"), 1), (("a", "b", "c"), ("a", "b"), 2)):
            self.assertEqual((plain.first_unlike(one, other), plain.first_unlike(other, one)), (place, place))
        self.assertEqual(plain.least_double(("c", "b", "c", "a", "b")), "b")
        self.assertIsNone(plain.least_double(("c", "a", "b")))

    def test_wanted_names(self):
        for want, error in ((plain.want_bills, NoBill), (plain.want_payers, NoPayer)):
            self.assertIsNone(want(("b", "a"), ("a", "b", "c")))
            self.assertIsNone(want((), ()))
            check_raises(self, want, error("d"), names=("b", "d", "e", "a"), known=("a", "b", "c"))
        self.assertIsNone(plain.want_new(("d", "e"), ("a", "b")))
        self.assertIsNone(plain.want_new((), ("a",)))
        check_raises(self, plain.want_new, Twice("b"), names=("d", "b", "a"), known=("a", "b"))
        self.assertIsNone(plain.want_once(("b", "a")))
        check_raises(self, plain.want_once, Twice("c"), names=("a", "c", "b", "c", "b", "a"))
        self.assertIsNone(plain.want_unlike(("b", "a")))
        check_raises(self, plain.want_unlike, Twice("b"), names=("c", "b", "c", "b", "a"))

    def test_all_sets_and_lists(self):
        for names in ((), ("a",), ("a", "b"), ("b", "c", "zz"), ("a", "ab", "b", "c", "d")):
            check_same(self, plain.all_sets(names), sorted(sets_of(names)))
            check_same(self, plain.all_lists(names), sorted(rows_of(names)))


if __name__ == "__main__":
    unittest.main()
