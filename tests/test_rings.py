import math
import unittest
from fractions import Fraction

from earbells.errors import BellError, Mixed, Waiting
from earbells.rings import pace
from earbells.strokes import strokes
from earbells.waiting import waiting

from helper import beats_and_backs, heard_bells, ring_means, some_choir, wants

# Two rings: of a and b (3 + 4 by 2 backs), and of b alone (5 by 1); c hears
# both, and d only itself (2 by 1).
ALL_FOUR = (
    ("a", 0, "all", ((1, 3, 1),)),
    ("b", 0, "all", ((0, 4, 1), (1, 5, 1))),
    ("c", 0, "all", ((0, 9, 0), (3, 1, 1))),
    ("d", 0, "all", ((3, 2, 1),)),
)
ANY_FOUR = tuple((name, start, "any", listenings) for name, start, rule, listenings in ALL_FOUR)


def free_choirs(sort, seeds, **more):
    for seed in seeds:
        choir = some_choir(seed, sort, **more)
        if waiting(choir) == []:
            yield seed, choir


def wants_all(choir):
    return all(wants(bell[2], len(bell[3])) == len(bell[3]) for bell in choir)


class PaceCase(unittest.TestCase):
    def assert_fraction(self, told):
        self.assertIs(type(told), tuple)
        self.assertEqual([type(part) for part in told], [int, int])
        self.assertGreaterEqual(told[1], 1)
        self.assertEqual(math.gcd(*told), 1)

    def assert_steps(self, choir, steps, after):
        """Each is a listening to the bell of the next one, the last one to the told bell."""
        self.assertIs(type(steps), list)
        for step, onward in zip(steps, [entry[0] for entry in steps[1:]] + [after]):
            self.assertIs(type(step), tuple)
            bell, place = step
            self.assertGreaterEqual(place, 0)
            self.assertEqual(choir[bell][3][place][0], onward)

    def assert_pace(self, choir, bell):
        told = pace(choir, bell)
        self.assertIs(type(told), tuple)
        mean, way, ring, numbers = told
        slowest = wants_all(choir)
        near = sorted({bell} | set(heard_bells(choir, bell)))
        self.assert_fraction(mean)
        self.assertEqual(Fraction(*mean), (max if slowest else min)(ring_means(choir, bell)))
        self.assert_steps(choir, ring, ring[0][0])
        self.assertEqual(len({entry[0] for entry in ring}), len(ring))
        self.assertLessEqual({entry[0] for entry in ring}, set(near))
        beats, backs = beats_and_backs(choir, ring)
        self.assertEqual(Fraction(beats, backs), Fraction(*mean))
        self.assert_steps(choir, way, ring[0][0])
        self.assertEqual([entry[0] for entry in way + ring][0], bell)
        if ring[0][0] == bell:
            self.assertEqual(way, [])
        self.assert_numbers(choir, near, mean, numbers, slowest)
        return told

    def assert_numbers(self, choir, near, mean, numbers, slowest):
        self.assertIs(type(numbers), list)
        self.assertEqual(len(numbers), len(choir))
        self.assertEqual([number is not None for number in numbers], [bell in near for bell in range(len(choir))])
        for bell in near:
            self.assert_fraction(numbers[bell])
        for bell in near:
            for whom, beats, back in choir[bell][3]:
                side = Fraction(*numbers[whom]) + beats - back * Fraction(*mean)
                if slowest:
                    self.assertGreaterEqual(Fraction(*numbers[bell]), side)
                else:
                    self.assertLessEqual(Fraction(*numbers[bell]), side)


class WantingAll(PaceCase):
    def test_told_means(self):
        self.assertEqual([self.assert_pace(ALL_FOUR, bell)[0] for bell in range(4)], [(5, 1), (5, 1), (5, 1), (2, 1)])

    def test_alone(self):
        choir = (("a", 9, "all", ((0, 7, 1),)),)
        self.assertEqual(self.assert_pace(choir, 0)[:3], ((7, 1), [], [(0, 0)]))

    def test_the_slower_of_several_listenings_between_two(self):
        choir = (("a", 0, "all", ((1, 3, 1), (1, 8, 1), (1, 5, 1))), ("b", 0, "all", ((0, 1, 1), (0, 2, 0))))
        told = self.assert_pace(choir, 0)
        # 8 and 2 by one back, above 8 and 1 by two.
        self.assertEqual(told[0], (10, 1))
        self.assertEqual(sorted(told[2]), [(0, 1), (1, 1)])

    def test_lowest_terms(self):
        choir = (("a", 0, "all", ((1, 3, 1),)), ("b", 0, "all", ((0, 4, 1),)))
        self.assertEqual(self.assert_pace(choir, 0)[0], (7, 2))
        choir = (("a", 0, "all", ((1, 3, 1),)), ("b", 0, "all", ((0, 5, 1),)))
        self.assertEqual(self.assert_pace(choir, 1)[0], (4, 1))

    def test_a_long_way(self):
        choir = tuple((name, 0, "all", ((min(number + 1, 5), 3, number % 2),)) for number, name in enumerate("abcdef"))
        told = self.assert_pace(choir, 0)
        self.assertEqual(told[:3], ((3, 1), [(0, 0), (1, 0), (2, 0), (3, 0), (4, 0)], [(5, 0)]))
        self.assertEqual(self.assert_pace(choir, 5)[3][:5], [None] * 5)

    def test_rules_told_as_numbers(self):
        choir = (("a", 0, 2, ((1, 3, 1), (0, 9, 1))), ("b", 0, 1, ((0, 4, 1),)))
        self.assertEqual(self.assert_pace(choir, 1)[0], (9, 1))

    def test_a_ring_of_six(self):
        choir = tuple(
            (name, 0, "all", (((number + 1) % 6, 1000, 1 if number == 3 else 0), (number, 1, 1)))
            for number, name in enumerate("abcdef"))
        for bell in range(6):
            told = self.assert_pace(choir, bell)
            self.assertEqual(told[0], (6000, 1))
            self.assertEqual(sorted(told[2]), [(number, 0) for number in range(6)])

    def test_many_choirs(self):
        many = 0
        for seed, choir in free_choirs("all", range(300)):
            for bell in range(len(choir)):
                with self.subTest(seed=seed, bell=bell):
                    self.assert_pace(choir, bell)
                    many += 1
        self.assertGreater(many, 200)

    def test_many_wide_choirs(self):
        for seed, choir in free_choirs("all", range(500, 700), bells=6, top=1000, backs=(1, 1, 1, 0)):
            with self.subTest(seed=seed):
                self.assert_pace(choir, seed % 6)


class WantingOne(PaceCase):
    def test_told_means(self):
        # c may follow d.
        self.assertEqual([self.assert_pace(ANY_FOUR, bell)[0] for bell in range(4)], [(7, 2), (7, 2), (2, 1), (2, 1)])

    def test_rules_told_as_numbers(self):
        choir = (("a", 0, 1, ((1, 3, 1), (0, 9, 1))), ("b", 0, "any", ((0, 4, 1),)))
        self.assertEqual(self.assert_pace(choir, 1)[0], (7, 2))

    def test_rings_with_backs_nought_do_not_count(self):
        choir = (("a", 0, "any", ((1, 1, 0), (0, 900, 1))), ("b", 0, "any", ((0, 1, 0), (1, 1, 0))))
        for bell in range(2):
            told = self.assert_pace(choir, bell)
            self.assertEqual(told[0], (900, 1))
            self.assertEqual(told[2], [(0, 1)])
        self.assertEqual(self.assert_pace(choir, 1)[1], [(1, 0)])

    def test_a_long_ring_with_one_back(self):
        choir = tuple(
            (name, 0, "any", (((number + 1) % 6, 1000, 1 if number == 3 else 0),)) for number, name in enumerate("abcdef"))
        choir = choir[:2] + (("c", 0, "any", choir[2][3] + ((1, 1, 0),)),) + choir[3:]
        for bell in range(6):
            self.assertEqual(self.assert_pace(choir, bell)[0], (6000, 1))

    def test_the_quicker_of_several_listenings_between_two(self):
        choir = (("a", 0, "any", ((1, 3, 1), (1, 8, 1), (1, 2, 1))), ("b", 0, "any", ((0, 1, 1), (0, 2, 0))))
        told = self.assert_pace(choir, 0)
        self.assertEqual(told[0], (3, 2))
        self.assertEqual(sorted(told[2]), [(0, 2), (1, 0)])

    def test_many_choirs(self):
        many = 0
        for seed, choir in free_choirs("any", range(300), backs=(0, 0, 1)):
            for bell in range(len(choir)):
                with self.subTest(seed=seed, bell=bell):
                    self.assert_pace(choir, bell)
                    many += 1
        self.assertGreater(many, 200)

    def test_many_wide_choirs(self):
        for seed, choir in free_choirs("any", range(500, 700), bells=6, top=1000):
            with self.subTest(seed=seed):
                self.assert_pace(choir, seed % 6)


class WantingBoth(PaceCase):
    def test_only_listenings(self):
        for rules in (("all", "all"), ("any", "any"), (1, 1), ("all", "any"), ("any", 1)):
            choir = (("a", 0, rules[0], ((1, 3, 1),)), ("b", 0, rules[1], ((1, 4, 1),)))
            self.assertEqual(self.assert_pace(choir, 0)[:3], ((4, 1), [(0, 0)], [(1, 0)]))

    def test_all_counts_first(self):
        # Beside an only listening each of the two sorts may stand.
        only = ("a", 0, "any", ((1, 3, 1),))
        self.assertEqual(self.assert_pace((only, ("b", 0, 2, ((1, 4, 1), (1, 6, 1)))), 0)[0], (6, 1))
        only = ("a", 0, "all", ((1, 3, 1),))
        self.assertEqual(self.assert_pace((only, ("b", 0, 1, ((1, 4, 1), (1, 6, 1)))), 0)[0], (4, 1))

    def test_many_choirs(self):
        for seed in range(60):
            choir = tuple((name, start, rule if isinstance(rule, str) else 1, listenings[:1])
                          for name, start, rule, listenings in some_choir(seed, backs=(1, 1, 0)))
            if waiting(choir) == []:
                for bell in range(len(choir)):
                    self.assert_pace(choir, bell)


class Refusing(unittest.TestCase):
    def assert_refused(self, kind, choir, bell):
        with self.assertRaises(kind) as taken:
            pace(choir, bell)
        self.assertIs(type(taken.exception), kind)
        self.assertIsInstance(taken.exception, BellError)
        return taken.exception

    def test_waiting_with_its_names(self):
        choir = (
            ("z", 0, "all", ((2, 1, 0),)), ("m", 0, "all", ((1, 1, 1),)), ("a", 0, "all", ((0, 1, 0), (1, 1, 1))))
        # Also for a bell that hears none of those that wait.
        for bell in range(3):
            error = self.assert_refused(Waiting, choir, bell)
            self.assertEqual(error.names, ["z", "a"])
            self.assertIs(type(error.names), list)
            error.names.clear()

    def test_waiting_where_all_want_one(self):
        choir = (("a", 0, "any", ((0, 1, 0), (1, 1, 0))), ("b", 0, "any", ((0, 1, 0),)), ("c", 0, 1, ((2, 1, 1),)))
        self.assertEqual(self.assert_refused(Waiting, choir, 2).names, ["a", "b"])

    def test_waiting_ahead_of_mixed(self):
        two = ((2, 1, 1), (2, 2, 1))
        choir = (("a", 0, "all", ((0, 1, 0),)), ("b", 0, "all", two), ("c", 0, "any", two))
        self.assertEqual(self.assert_refused(Waiting, choir, 2).names, ["a"])

    def test_mixed(self):
        two = ((0, 1, 1), (1, 2, 1))
        three = two + ((0, 5, 1),)
        mixed = [
            (("a", 0, "all", two), ("b", 0, "any", two)),
            (("a", 0, 2, two), ("b", 0, 1, two)),
            (("a", 0, 2, three), ("b", 0, "all", two)),
            (("a", 0, 2, three), ("b", 0, "any", two)),
            (("a", 0, 2, three), ("b", 0, 2, three)),
            (("a", 0, 2, three), ("b", 0, "all", two[:1])),
        ]
        for place, choir in enumerate(mixed):
            for bell in range(2):
                with self.subTest(place=place, bell=bell):
                    self.assert_refused(Mixed, choir, bell)

    def test_mixed_though_the_bell_hears_but_itself(self):
        two = ((0, 1, 1), (1, 2, 1))
        choir = (("a", 0, "all", two), ("b", 0, "any", two), ("c", 0, "all", ((2, 1, 1),)))
        self.assert_refused(Mixed, choir, 2)


class Following(unittest.TestCase):
    """What point 16 says of the strokes."""

    def assert_bounds(self, choir, bell):
        mean, way, ring, numbers = pace(choir, bell)
        told = strokes(choir, 40)
        above = [Fraction(start) - Fraction(*number)
                 for (name, start, rule, listenings), number in zip(choir, numbers) if number is not None]
        beats, backs = beats_and_backs(choir, ring)
        first = ring[0][0]
        for n in range(41):
            for other in [other for other in range(len(choir)) if numbers[other] is not None]:
                reckoned = Fraction(*numbers[other]) + n * Fraction(*mean)
                if wants_all(choir):
                    self.assertLessEqual(told[n][other], reckoned + max(above))
                else:
                    self.assertGreaterEqual(told[n][other], reckoned + min(above))
            if 1 <= n <= 40 - backs:
                if wants_all(choir):
                    self.assertGreaterEqual(told[n + backs][first], told[n][first] + beats)
                else:
                    self.assertLessEqual(told[n + backs][first], told[n][first] + beats)

    def test_bounds_where_all_want_all(self):
        for seed, choir in free_choirs("all", range(80)):
            for bell in range(len(choir)):
                with self.subTest(seed=seed, bell=bell):
                    self.assert_bounds(choir, bell)

    def test_bounds_where_all_want_one(self):
        for seed, choir in free_choirs("any", range(80)):
            for bell in range(len(choir)):
                with self.subTest(seed=seed, bell=bell):
                    self.assert_bounds(choir, bell)

    def test_the_mean_time_between_strokes_comes_near(self):
        for choir in (ALL_FOUR, ANY_FOUR):
            told = strokes(choir, 1000)
            for bell in range(4):
                mean = Fraction(*pace(choir, bell)[0])
                self.assertLess(abs(Fraction(told[1000][bell] - told[0][bell], 1000) - mean), Fraction(1, 20))


class AskersOwn(unittest.TestCase):
    def test_nothing_done_later_changes_what_is_told(self):
        first = pace(ALL_FOUR, 2)
        again = pace(ALL_FOUR, 2)
        self.assertEqual(first, again)
        first[1].clear()
        first[2].append((0, 0))
        first[3][0] = None
        self.assertEqual(pace(ALL_FOUR, 2), again)


if __name__ == "__main__":
    unittest.main()
