import unittest
from fractions import Fraction

from earbells.errors import BellError, Waiting
from earbells.rings import pace
from earbells.rounds import round_of
from earbells.strokes import strokes
from earbells.waiting import waiting

from helper import Chooser, round_by_looking, some_choir

ALONE = (("a", 4, "all", ((0, 3, 1),)),)
# Each hears but the other: the gap between them turns round at each stroke.
TURNS = (("a", 0, "all", ((1, 1, 1),)), ("b", 50, "all", ((0, 1, 1),)))
# b takes a beat more each time, and so a, who began later, has to follow it at last.
CATCHES_UP = (("a", 20, "all", ((0, 5, 1), (1, 5, 1))), ("b", 0, "all", ((1, 6, 1),)))
# Two bells that never hear one another, of different paces.
APART = (("a", 0, "all", ((0, 2, 1),)), ("b", 0, "all", ((1, 3, 1),)))


def with_starts(choir, starts):
    return tuple((bell[0], start) + bell[2:] for bell, start in zip(choir, starts))


class Told(unittest.TestCase):
    def test_from_stroke_nought(self):
        self.assertEqual(round_of(ALONE, 1), ("round", 0, 1, 3))
        self.assertEqual(round_of(ALONE, 500), ("round", 0, 1, 3))

    def test_many_above_one(self):
        self.assertEqual(round_of(TURNS, 500), ("round", 0, 2, 2))
        self.assertEqual(round_of(TURNS, 2), ("round", 0, 2, 2))
        self.assertEqual(round_of(TURNS, 1), ("none",))

    def test_from_a_later_stroke(self):
        told = strokes(CATCHES_UP, 30)
        self.assertEqual(round_of(CATCHES_UP, 500), round_by_looking(told))
        word, first, many, beats = round_of(CATCHES_UP, 500)
        self.assertEqual((word, many, beats), ("round", 1, 6))
        self.assertGreater(first, 5)
        self.assertEqual(round_of(CATCHES_UP, first + 1), ("round", first, 1, 6))
        self.assertEqual(round_of(CATCHES_UP, first), ("none",))

    def test_none(self):
        for most in (1, 2, 100, 500):
            self.assertEqual(round_of(APART, most), ("none",))

    def test_from_just_within_most(self):
        # a strikes once at 1000 and then follows b: round from stroke 1 on.
        choir = (("a", 1000, "all", ((1, 1, 1),)), ("b", 0, "all", ((1, 2, 1),)))
        self.assertEqual(round_of(choir, 1), ("none",))
        self.assertEqual(round_of(choir, 2), ("round", 1, 1, 2))

    def test_at_five_hundred(self):
        # a comes one beat nearer to b each stroke, and is level at stroke 499.
        for start, wanted in ((499, ("round", 499, 1, 3)), (500, ("none",))):
            choir = (("a", start, "all", ((0, 2, 1), (1, 3, 1))), ("b", 0, "all", ((1, 3, 1),)))
            self.assertEqual(round_of(choir, 500), wanted)
        self.assertEqual(round_of(choir, 501), ("round", 500, 1, 3))

    def test_the_least_from_ahead_of_the_least_many(self):
        # A round of three from stroke 0 on, with no round of fewer anywhere.
        choir = (
            ("a", 0, "all", ((1, 2, 1),)), ("b", 5, "all", ((2, 2, 1),)), ("c", 11, "all", ((0, 2, 1),)))
        self.assertEqual(round_of(choir, 500), ("round", 0, 3, 6))
        self.assertEqual(round_of(choir, 3), ("round", 0, 3, 6))
        self.assertEqual(round_of(choir, 2), ("none",))

    def test_kinds(self):
        told = round_of(TURNS, 9)
        self.assertIs(type(told), tuple)
        self.assertEqual([type(part) for part in told], [str, int, int, int])
        self.assertIs(type(round_of(APART, 9)), tuple)

    def test_against_plain_looking(self):
        seen = set()
        for seed in range(250):
            choir = some_choir(seed)
            if waiting(choir) == []:
                for most in (1, 2, 7, 40):
                    told = round_of(choir, most)
                    with self.subTest(seed=seed, most=most):
                        self.assertEqual(told, round_by_looking(strokes(choir, most)))
                    seen.add((told[0],) + tuple(part > 1 for part in told[1:3]))
        self.assertLessEqual({("none",), ("round", False, False), ("round", True, True)}, seen)

    def test_it_goes_on_for_each_later_stroke(self):
        many_rounds = 0
        for seed in range(150):
            choir = some_choir(seed)
            if waiting(choir) == []:
                told = round_of(choir, 40)
                if told != ("none",):
                    many_rounds += 1
                    beats = strokes(choir, 120)
                    for n in range(told[1], 121 - told[2]):
                        wanted = [beat + told[3] for beat in beats[n]]
                        self.assertEqual(beats[n + told[2]], wanted, (seed, n))
        self.assertGreater(many_rounds, 30)


class Refusing(unittest.TestCase):
    def test_waiting(self):
        choir = (("z", 0, "all", ((1, 1, 0),)), ("a", 9, "any", ((0, 1, 0),)), ("c", 0, "all", ((2, 1, 1),)))
        for most in (1, 500):
            with self.assertRaises(Waiting) as taken:
                round_of(choir, most)
            self.assertIs(type(taken.exception), Waiting)
            self.assertIsInstance(taken.exception, BellError)
            self.assertEqual(taken.exception.names, ["z", "a"])

    def test_mixed_rules_are_not_refused(self):
        choir = (("a", 0, "all", ((0, 2, 1), (1, 3, 1))), ("b", 0, "any", ((0, 2, 1), (1, 3, 1))))
        self.assertEqual(round_of(choir, 500)[0], "round")


class Means(unittest.TestCase):
    def test_beats_by_many_is_the_mean_of_each_bell(self):
        many_rounds = 0
        for sort in ("all", "any"):
            for seed in range(120):
                choir = some_choir(seed, sort)
                told = round_of(choir, 60) if waiting(choir) == [] else ("none",)
                if told != ("none",):
                    many_rounds += 1
                    for bell in range(len(choir)):
                        mean = pace(choir, bell)[0]
                        self.assertEqual(Fraction(told[3], told[2]), Fraction(*mean), (sort, seed, bell))
        self.assertGreater(many_rounds, 40)

    def test_choirs_that_differ_in_their_starts_alone(self):
        many_rounds = 0
        for seed in range(150):
            one = some_choir(seed)
            if waiting(one) != []:
                continue
            chooser = Chooser(seed + 1000)
            other = with_starts(one, [chooser.between(0, 30) for bell in one])
            farthest = max(abs(bell[1] - again[1]) for bell, again in zip(one, other))
            for first, second in zip(strokes(one, 60), strokes(other, 60)):
                for soon, late in zip(first, second):
                    self.assertLessEqual(abs(soon - late), farthest, seed)
            rounds = [round_of(one, 100), round_of(other, 100)]
            if ("none",) not in rounds:
                many_rounds += 1
                self.assertEqual(Fraction(rounds[0][3], rounds[0][2]), Fraction(rounds[1][3], rounds[1][2]), seed)
        self.assertGreater(many_rounds, 30)


if __name__ == "__main__":
    unittest.main()
