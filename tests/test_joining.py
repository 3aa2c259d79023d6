import unittest

from earbells.choirs import checked
from earbells.errors import BellError, NoChoir, NoName
from earbells.joining import joined
from earbells.strokes import strokes

from helper import some_choir

ONE = (("a", 0, "all", ((1, 2, 1), (0, 5, 1))), ("b", 1, "all", ((0, 3, 0),)))
OTHER = (("x", 4, "any", ((1, 2, 1), (0, 6, 1))), ("y", 9, 1, ((0, 1, 0),)))


def renamed(choir, names):
    return tuple((name,) + bell[1:] for bell, name in zip(choir, names))


class Joined(unittest.TestCase):
    def test_without_ties(self):
        self.assertEqual(joined(ONE, OTHER, []), (
            ("a", 0, "all", ((1, 2, 1), (0, 5, 1))), ("b", 1, "all", ((0, 3, 0),)),
            ("x", 4, "any", ((3, 2, 1), (2, 6, 1))), ("y", 9, 1, ((2, 1, 0),))))

    def test_ties_between_the_two(self):
        told = joined(ONE, OTHER, [("a", "y", 7, 1), ("x", "b", 8, 0)])
        self.assertEqual(told, (
            ("a", 0, "all", ((1, 2, 1), (0, 5, 1), (3, 7, 1))), ("b", 1, "all", ((0, 3, 0),)),
            ("x", 4, "any", ((3, 2, 1), (2, 6, 1), (1, 8, 0))), ("y", 9, 1, ((2, 1, 0),))))

    def test_ties_within_either(self):
        told = joined(ONE, OTHER, [("b", "b", 1000, 1), ("y", "x", 1, 0)])
        self.assertEqual(told[1], ("b", 1, "all", ((0, 3, 0), (1, 1000, 1))))
        self.assertEqual(told[3], ("y", 9, 1, ((2, 1, 0), (2, 1, 0))))

    def test_ties_of_one_bell_in_their_order(self):
        told = joined(ONE, OTHER, [("b", "y", 3, 1), ("x", "x", 1, 1), ("b", "a", 2, 0), ("b", "y", 1, 1)])
        self.assertEqual(told[1][3], ((0, 3, 0), (3, 3, 1), (0, 2, 0), (3, 1, 1)))

    def test_a_rule_stays_what_it_is(self):
        one = (("a", 0, "all", ((0, 4, 1),)), ("b", 0, 1, ((1, 4, 1),)), ("c", 0, "any", ((2, 4, 1),)))
        other = (("x", 0, "all", ((0, 9, 1),)),)
        told = joined(one, other, [(name, "x", 7, 1) for name in "abc"])
        self.assertEqual([bell[2] for bell in told], ["all", 1, "any", "all"])
        # all wants both, the number and any want one.
        self.assertEqual(strokes(told, 1)[1], [7, 4, 4, 9])
        two = (("d", 0, 2, ((0, 4, 1), (0, 6, 1))),)
        self.assertEqual(strokes(joined(two, other, [("d", "x", 5, 1)]), 1)[1], [5, 9])

    def test_six_bells_and_six_listenings(self):
        three = tuple((name, 0, "all", ((0, 1, 1),)) for name in "abc")
        told = joined(three, renamed(three, "def"), [("f", "a", beats, 1) for beats in range(1, 6)])
        self.assertEqual(len(told), 6)
        self.assertEqual(told[5][3], ((3, 1, 1), (0, 1, 1), (0, 2, 1), (0, 3, 1), (0, 4, 1), (0, 5, 1)))

    def test_what_is_handed_in_stays(self):
        ties = [("a", "y", 7, 1)]
        joined(ONE, OTHER, ties)
        self.assertEqual(ties, [("a", "y", 7, 1)])
        self.assertEqual(ONE[0][3], ((1, 2, 1), (0, 5, 1)))
        self.assertEqual(OTHER[0][3], ((1, 2, 1), (0, 6, 1)))

    def test_without_ties_the_strokes_fall_as_ahead(self):
        for seed in range(60):
            one = some_choir(seed, bells=1 + seed % 3)
            other = renamed(some_choir(seed + 500, bells=1 + seed % 2), "xyz")
            told = checked(joined(one, other, []))
            apart = [first + second for first, second in zip(strokes(one, 15), strokes(other, 15))]
            self.assertEqual(strokes(told, 15), apart, seed)


class Refusing(unittest.TestCase):
    def assert_no_name(self, one, other, ties, name):
        with self.assertRaises(NoName) as taken:
            joined(one, other, ties)
        self.assertIs(type(taken.exception), NoName)
        self.assertIsInstance(taken.exception, BellError)
        self.assertEqual(taken.exception.name, name)

    def assert_no_choir(self, one, other, ties, bell):
        with self.assertRaises(NoChoir) as taken:
            joined(one, other, ties)
        self.assertIs(type(taken.exception), NoChoir)
        self.assertEqual(taken.exception.bell, bell)
        self.assertIs(type(taken.exception.bell), type(bell))

    def test_a_name_of_the_second_that_the_first_has(self):
        self.assert_no_name(ONE, ONE, [], "a")
        self.assert_no_name(ONE, renamed(OTHER, ["x", "b"]), [], "b")
        self.assert_no_name(ONE, renamed(OTHER, ["b", "a"]), [], "b")

    def test_strange_names_in_a_tie(self):
        self.assert_no_name(ONE, OTHER, [("q", "a", 1, 1)], "q")
        self.assert_no_name(ONE, OTHER, [("a", "q", 1, 1)], "q")
        self.assert_no_name(ONE, OTHER, [("a", "", 1, 1)], "")

    def test_name_ahead_of_whom(self):
        self.assert_no_name(ONE, OTHER, [("q", "r", 1, 1)], "q")
        self.assert_no_name(ONE, OTHER, [("r", "q", 1, 1)], "r")

    def test_tie_by_tie(self):
        self.assert_no_name(ONE, OTHER, [("a", "r", 1, 1), ("q", "a", 1, 1)], "r")
        self.assert_no_name(ONE, OTHER, [("a", "b", 1, 1), ("x", "y", 1, 1), ("q", "a", 1, 1), ("r", "a", 1, 1)], "q")

    def test_names_of_both_ahead_of_ties(self):
        self.assert_no_name(ONE, ONE, [("q", "r", 1, 1)], "a")

    def test_names_ahead_of_no_choir(self):
        self.assert_no_name(ONE, OTHER, [("a", "b", 0, 1), ("a", "q", 1, 1)], "q")
        six = tuple((name, 0, "all", ((0, 1, 1),)) for name in "abcdef")
        self.assert_no_name(six, (("f", 0, "all", ((0, 1, 1),)),), [], "f")
        self.assert_no_name(six, OTHER, [("a", "q", 1, 1)], "q")

    def test_more_than_six_bells(self):
        six = tuple((name, 0, "all", ((0, 1, 1),)) for name in "abcdef")
        self.assert_no_choir(six, (("x", 0, "all", ((0, 1, 1),)),), [], None)
        self.assert_no_choir(OTHER, six, [("x", "y", 0, 1)], None)

    def test_seven_listenings(self):
        four = [("a", "x", beats, 1) for beats in range(1, 5)]
        self.assertEqual(len(joined(ONE, OTHER, four)[0][3]), 6)
        self.assert_no_choir(ONE, OTHER, four + [("a", "a", 1, 1)], 0)
        six = [("y", "y", 1, 1)] * 6
        self.assertEqual(len(joined(ONE, OTHER, six[:5])[3][3]), 6)
        self.assert_no_choir(ONE, OTHER, six, 3)

    def test_beats_and_backs_that_are_none(self):
        for beats in (0, 1001, -1, True, None, "1"):
            with self.subTest(beats=beats):
                self.assert_no_choir(ONE, OTHER, [("b", "x", beats, 1)], 1)
        for back in (2, -1, True, False, None, "1"):
            with self.subTest(back=back):
                self.assert_no_choir(ONE, OTHER, [("x", "b", 1, back)], 2)

    def test_of_two_wrong_bells_the_first(self):
        self.assert_no_choir(ONE, OTHER, [("y", "x", 0, 1), ("b", "x", 1, 2)], 1)


if __name__ == "__main__":
    unittest.main()
