import unittest

from earbells.choirs import checked, names_of, place_of
from earbells.errors import BellError, NoChoir, NoName

from helper import some_choir

SELF = ((0, 1, 1),)
GOOD = ("a", 0, "all", SELF)


def six_bells():
    names = ["a", "bb", "quintbel", "z", "tenor", "treble"]
    return tuple((name, 10 * number, "all", ((number, 3, 1),)) for number, name in enumerate(names))


def with_bell(number, bell):
    choir = list(six_bells())
    choir[number] = bell
    return tuple(choir)


class ClaimsToEqualAll:
    def __eq__(self, other):
        return True

    __hash__ = None


class Good(unittest.TestCase):
    def assert_good(self, choir):
        told = checked(choir)
        self.assertEqual(told, choir)
        self.assertIs(type(told), tuple)

    def test_one_to_six_bells(self):
        for many in range(1, 7):
            with self.subTest(many=many):
                self.assert_good(six_bells()[:many])

    def test_names_of_one_and_of_eight_letters(self):
        for name in ("a", "z", "quintbel", "zzzzzzzz", "alla", "anyone", "bells", "nonet", "al"):
            with self.subTest(name=name):
                self.assert_good(((name, 0, "all", SELF),))

    def test_numbers_at_the_bounds(self):
        for start in (0, 1, 999, 1000):
            for beats in (1, 2, 999, 1000):
                with self.subTest(start=start, beats=beats):
                    self.assert_good((("a", start, "all", ((0, beats, 1),)),))

    def test_back_nought_and_one(self):
        self.assert_good((("a", 0, "all", ((0, 1, 0),)),))
        self.assert_good((("a", 0, "all", ((0, 1, 1),)),))

    def test_whom_is_the_first_or_the_last_or_itself(self):
        for whom in range(6):
            self.assert_good(with_bell(3, ("z", 0, "all", ((whom, 2, 1),))))

    def test_each_rule_for_one_to_six_listenings(self):
        for many in range(1, 7):
            for rule in ["all", "any"] + list(range(1, many + 1)):
                with self.subTest(many=many, rule=rule):
                    self.assert_good((("a", 0, rule, SELF * many),))

    def test_twice_to_one_bell(self):
        self.assert_good((("a", 0, 2, ((0, 1, 1), (0, 1, 1), (0, 7, 0))),))

    def test_a_later_bell_may_be_listened_to(self):
        self.assert_good((("a", 0, "all", ((1, 4, 0),)), ("b", 5, "any", ((0, 4, 1),))))

    def test_many_choirs(self):
        for seed in range(60):
            self.assert_good(some_choir(seed))


class NoBell(unittest.TestCase):
    def assert_refused(self, thing, bell):
        with self.assertRaises(NoChoir) as taken:
            checked(thing)
        self.assertIs(type(taken.exception), NoChoir)
        self.assertIsInstance(taken.exception, BellError)
        self.assertEqual(taken.exception.bell, bell)
        self.assertIs(type(taken.exception.bell), type(bell))

    def assert_no_bell(self, bell):
        """Refused by itself, and at each place among six."""
        self.assert_refused((bell,), 0)
        for number in range(6):
            self.assert_refused(with_bell(number, bell), number)

    def test_things_that_are_no_tuple_of_one_to_six(self):
        seven = six_bells() + (("seventh", 0, "all", SELF),)
        things = [
            None, True, False, 0, 1, -1, "", "a", "abcdef", 1.5, b"a", {}, {0: GOOD}, set(), [], [GOOD],
            list(six_bells()), (), seven, seven + seven, (None,) * 7, object(), len, ClaimsToEqualAll(),
        ]
        for place, thing in enumerate(things):
            with self.subTest(place=place):
                self.assert_refused(thing, None)

    def test_seven_bells_ahead_of_a_wrong_bell(self):
        self.assert_refused((None,) + six_bells(), None)

    def test_bells_that_are_no_tuple_of_four(self):
        things = [
            None, True, 0, "a", "abcd", {}, [], list(GOOD), (), ("a",), ("a", 0), ("a", 0, "all"),
            ("a", 0, "all", SELF, None), ("a", 0, "all", SELF, SELF), ("a", 0, SELF), object(),
            ClaimsToEqualAll(),
        ]
        for place, thing in enumerate(things):
            with self.subTest(place=place):
                self.assert_no_bell(thing)

    def test_names_that_are_none(self):
        names = [
            "", " ", "ninelette", "ninelettersandmore", "A", "Tenor", "tEnor", "tenoR", "a1", "1", "0", "a b", " a",
            "a ", "a_b", "a-b", "a+", "a=", "a;", "a\n", "\n", "all", "any", "bell", "none", "\u00e9", "\u00df",
            None, True, False, 0, 1, (), ("a",), [], ["a"], {}, {"a": 1}, b"a", 1.0, object(), ClaimsToEqualAll(),
        ]
        for place, name in enumerate(names):
            with self.subTest(place=place):
                self.assert_no_bell((name, 0, "all", SELF))

    def test_a_name_that_stands_ahead(self):
        for number in range(1, 6):
            for ahead in range(number):
                name = six_bells()[ahead][0]
                self.assert_refused(with_bell(number, (name, 0, "all", SELF)), number)
        self.assert_refused((GOOD, GOOD), 1)
        self.assert_refused((GOOD, GOOD, None), 1)

    def test_a_name_that_stands_only_behind_is_good_here(self):
        choir = with_bell(1, ("treble", 0, "all", SELF))
        self.assert_refused(choir, 5)

    def test_starts_that_are_none(self):
        for start in (-1, -1000, 1001, 10 ** 60, -(10 ** 60), True, False, None, "0", "", 0.0, (0,), [0], {}):
            with self.subTest(start=start):
                self.assert_no_bell(("x", start, "all", SELF))

    def test_beats_that_are_none(self):
        for beats in (0, -1, -1000, 1001, 10 ** 60, True, False, None, "1", 1.0, (1,), [1]):
            with self.subTest(beats=beats):
                self.assert_no_bell(("x", 0, "all", ((0, beats, 1),)))

    def test_backs_that_are_none(self):
        for back in (-1, 2, 3, 10 ** 60, True, False, None, "1", "", 1.0, 0.0, (1,), [0]):
            with self.subTest(back=back):
                self.assert_no_bell(("x", 0, "all", ((0, 1, back),)))

    def test_whom_that_is_no_bell(self):
        for whom in (-1, -6, 6, 7, 10 ** 60, True, False, None, "0", "a", 0.0, (0,), [0]):
            with self.subTest(whom=whom):
                self.assert_no_bell(("x", 0, "all", ((whom, 1, 1),)))

    def test_whom_hangs_on_the_number_of_all_bells(self):
        for many in range(1, 6):
            choir = list(six_bells()[:many])
            choir[0] = ("a", 0, "all", ((many - 1, 1, 1),))
            self.assertEqual(checked(tuple(choir)), tuple(choir))
            choir[0] = ("a", 0, "all", ((many, 1, 1),))
            self.assert_refused(tuple(choir), 0)

    def test_rules_that_are_none_for_so_many(self):
        for many in range(1, 7):
            rules = [
                0, -1, many + 1, 7, 8, 9, True, False, None, "", "1", "some", "All", "all ", "none", 1.0, (), (1,),
                [], ["all"], {}, object(), ClaimsToEqualAll(),
            ]
            for place, rule in enumerate(rules):
                with self.subTest(many=many, place=place):
                    self.assert_no_bell(("x", 0, rule, SELF * many))

    def test_no_listening_and_seven(self):
        for many in (0, 7, 8, 9):
            for rule in ("all", "any", 1):
                with self.subTest(many=many, rule=rule):
                    self.assert_no_bell(("x", 0, rule, SELF * many))

    def test_listenings_that_are_no_tuple(self):
        for place, thing in enumerate([None, True, 0, 1, "", "abc", [], [(0, 1, 1)], {}, {0: 1}, object()]):
            with self.subTest(place=place):
                self.assert_no_bell(("x", 0, "any", thing))

    def test_a_listening_that_is_no_tuple_of_three(self):
        things = [None, True, 0, "abc", [], [0, 1, 1], (), (0,), (0, 1), (0, 1, 1, 1), (0, 1, 1, None), {}, object()]
        for place, thing in enumerate(things):
            with self.subTest(place=place):
                self.assert_no_bell(("x", 0, "any", (thing,)))
                self.assert_no_bell(("x", 0, "any", ((0, 1, 1), thing)))
                self.assert_no_bell(("x", 0, "any", (thing, (0, 1, 1))))

    def test_two_wrong_things_of_one_bell(self):
        self.assert_no_bell(("", -1, "all", SELF))
        self.assert_no_bell(("x", 1001, "some", SELF))
        self.assert_no_bell(("x", 0, None, ()))
        self.assert_no_bell((None, 0, "all", None))
        self.assert_no_bell(("x", True, "all", ((9, 0, 2),)))

    def test_of_two_wrong_bells_the_first(self):
        wrong = [None, ("A", 0, "all", SELF), ("x", -1, "all", SELF), ("x", 0, 2, SELF), ("x", 0, "all", ())]
        for first in range(5):
            for second in range(first + 1, 6):
                choir = list(six_bells())
                choir[first] = wrong[first % 5]
                choir[second] = wrong[second % 5]
                self.assert_refused(tuple(choir), first)

    def test_what_is_refused_is_not_changed(self):
        listening = [0, 1, 1]
        bell = ["a", 0, "all", (listening,)]
        things = [bell]
        self.assert_refused(things, None)
        self.assert_refused((bell,), 0)
        self.assert_refused((("a", 0, "all", (listening,)),), 0)
        self.assertEqual(things, [["a", 0, "all", ([0, 1, 1],)]])


class Names(unittest.TestCase):
    def test_each_name_in_order(self):
        self.assertEqual(names_of(six_bells()), ["a", "bb", "quintbel", "z", "tenor", "treble"])
        self.assertEqual(names_of((GOOD,)), ["a"])
        self.assertIs(type(names_of((GOOD,))), list)

    def test_each_name_has_its_place(self):
        choir = six_bells()
        for number, name in enumerate(["a", "bb", "quintbel", "z", "tenor", "treble"]):
            self.assertEqual(place_of(choir, name), number)
            self.assertIs(type(place_of(choir, name)), int)

    def test_names_that_it_has_not(self):
        names = ["", " ", "b", "aa", "A", "TENOR", "tenor ", " tenor", "teno", "tenors", "all", "any", "bell", "none",
                 "quintbell", "0", "1"]
        for name in names:
            with self.subTest(name=name):
                with self.assertRaises(NoName) as taken:
                    place_of(six_bells(), name)
                self.assertIs(type(taken.exception), NoName)
                self.assertEqual(taken.exception.name, name)

    def test_the_list_told_is_the_askers_own(self):
        choir = six_bells()
        told = names_of(choir)
        told.append("more")
        told[0] = "changed"
        self.assertEqual(names_of(choir), ["a", "bb", "quintbel", "z", "tenor", "treble"])
        self.assertEqual(choir, six_bells())
        self.assertEqual(place_of(choir, "a"), 0)


if __name__ == "__main__":
    unittest.main()
