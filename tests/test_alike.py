import itertools
import unittest

from earbells.alike import held_against
from earbells.errors import BellError, NoName, NoRound, Waiting
from earbells.rounds import round_of
from earbells.strokes import strokes
from earbells.waiting import waiting

from helper import lowest_multiple, some_choir

PAIR = (("a", 0, "all", ((1, 2, 1), (0, 5, 1))), ("b", 1, "all", ((0, 3, 0),)))
# The same strokes of a and b, otherwise told, and a bell more.
PAIR_TOO = (
    ("c", 77, "any", ((1, 1, 1),)), ("b", 1, "any", ((2, 3, 0),)), ("a", 0, 1, ((2, 5, 1),)))
# No round: two bells that never hear one another.
APART = (("a", 0, "all", ((0, 2, 1),)), ("b", 0, "all", ((1, 3, 1),)))
STUCK = (("a", 0, "all", ((0, 1, 0),)), ("b", 0, "all", ((1, 3, 1),)))
STUCK_TOO = (("b", 0, "all", ((0, 3, 0),)), ("a", 0, "all", ((1, 3, 1),)))


def turning(starts):
    """A ring of bells, each hearing the next: stroke n of a falls at the n-th START, and 10 a stroke."""
    many = len(starts)
    return tuple(
        ("abcdef"[number], start, "all", (((number + 1) % many, 10, 1),)) for number, start in enumerate(starts))


def led(starts, start):
    """Such a ring, and z, who begins late, comes nearer by a beat a stroke, and at last follows a."""
    return turning(starts) + (("z", start, "all", ((len(starts), 9, 1), (0, 10, 1))),)


def held_by_looking(one, other, names, most):
    """As told, by going through all strokes of both rounds together."""
    for last in (most, None):
        if last is None:
            rounds = [round_of(one, most), round_of(other, most)]
            if ("none",) in rounds:
                return "no round"
            last = max(rounds[0][1], rounds[1][1]) + lowest_multiple(rounds[0][2], rounds[1][2])
        first, second = strokes(one, last), strokes(other, last)
        for n in range(last + 1):
            for name in names:
                beats = [told[n][[bell[0] for bell in choir].index(name)]
                         for choir, told in ((one, first), (other, second))]
                if beats[0] != beats[1]:
                    return ("part", n, name, beats[0], beats[1])
    return ("alike",)


class Alike(unittest.TestCase):
    def test_with_itself(self):
        self.assertEqual(held_against(PAIR, PAIR, ["a", "b"], 500), ("alike",))
        self.assertEqual(held_against(PAIR, PAIR, ["b"], 5), ("alike",))

    def test_otherwise_told(self):
        for names in (["a"], ["b"], ["a", "b"], ["b", "a"], ["a", "a", "b"]):
            self.assertEqual(held_against(PAIR, PAIR_TOO, names, 500), ("alike",))
            self.assertEqual(held_against(PAIR_TOO, PAIR, names, 500), ("alike",))

    def test_bells_that_are_not_named_may_part(self):
        one = (("a", 0, "all", ((0, 4, 1),)), ("b", 0, "all", ((0, 3, 0),)))
        other = (("b", 9, "all", ((1, 1, 0),)), ("a", 0, "all", ((1, 4, 1),)))
        self.assertEqual(held_against(one, other, ["a"], 500), ("alike",))
        self.assertEqual(held_against(one, other, ["a", "b"], 500), ("part", 0, "b", 0, 9))

    def test_rounds_of_different_many(self):
        # a strikes alike in a ring of two and, its STARTs twice over, of four.
        self.assertEqual(held_against(turning([0, 7]), turning([0, 7, 0, 7]), ["a", "b"], 500), ("alike",))
        self.assertEqual(held_against(turning([0, 7, 3]), turning([0, 7, 3, 0, 7, 3]), ["a"], 6), ("alike",))

    def test_kinds(self):
        self.assertIs(type(held_against(PAIR, PAIR, ["a"], 5)), tuple)


class Parting(unittest.TestCase):
    def test_at_stroke_nought(self):
        other = (PAIR[0], ("b", 2) + PAIR[1][2:])
        self.assertEqual(held_against(PAIR, other, ["a", "b"], 500), ("part", 0, "b", 1, 2))
        self.assertEqual(held_against(other, PAIR, ["a", "b"], 500), ("part", 0, "b", 2, 1))

    def test_at_a_later_stroke(self):
        # The slower listening to b counts only when b has fallen behind.
        one = (("a", 20, "all", ((0, 5, 1), (1, 5, 1))), ("b", 0, "all", ((1, 6, 1),)))
        other = (("a", 20, "all", ((0, 5, 1), (1, 3, 1))), ("b", 0, "all", ((1, 6, 1),)))
        told = held_against(one, other, ["b", "a"], 500)
        self.assertEqual(told, held_by_looking(one, other, ["b", "a"], 60))
        self.assertEqual((told[0], told[2], told[3] - told[4]), ("part", "a", 1))
        self.assertGreater(told[1], 15)

    def test_the_first_of_the_list(self):
        one = turning([0, 1, 2])
        other = turning([0, 2, 3])
        self.assertEqual(held_against(one, other, ["a", "b", "c"], 9), ("part", 0, "b", 1, 2))
        self.assertEqual(held_against(one, other, ["c", "b", "a"], 9), ("part", 0, "c", 2, 3))
        self.assertEqual(held_against(one, other, ["a"], 9), ("part", 1, "a", 11, 12))

    def test_the_least_stroke_ahead_of_the_first_name(self):
        one = (("a", 0, "all", ((0, 4, 1),)), ("b", 0, "all", ((1, 4, 1),)))
        other = (("a", 0, "all", ((0, 5, 1),)), ("b", 1, "all", ((1, 4, 1),)))
        self.assertEqual(held_against(one, other, ["a", "b"], 9), ("part", 0, "b", 0, 1))

    def test_within_most_where_there_is_no_round(self):
        other = (("a", 0, "all", ((0, 2, 1),)), ("b", 0, "all", ((1, 4, 1),)))
        self.assertEqual(held_against(APART, other, ["a", "b"], 1), ("part", 1, "b", 3, 4))

    def test_just_at_most(self):
        # a and c go level at stroke 6; from then on a follows c.
        one = (("a", 6, "all", ((0, 2, 1), (1, 3, 1))), ("c", 0, "all", ((1, 3, 1),)))
        other = (("a", 6, "all", ((0, 2, 1),)), ("c", 0, "all", ((1, 3, 1),)))
        self.assertEqual(held_against(one, other, ["a"], 7), ("part", 7, "a", 21, 20))
        with self.assertRaises(NoRound):
            held_against(one, other, ["a"], 6)

    def test_behind_most_where_both_have_rounds(self):
        one = turning([0, 0, 7])
        other = turning([0, 0, 7, 0])
        self.assertEqual(held_against(one, other, ["a"], 4), ("part", 5, "a", 57, 50))
        self.assertEqual(held_against(other, one, ["a"], 4), ("part", 5, "a", 50, 57))
        with self.assertRaises(NoRound):
            held_against(one, other, ["a"], 3)
        # As late as the rounds allow: of five and of six strokes, at stroke 9.
        starts = [0, 0, 0, 0, 7]
        self.assertEqual(held_against(turning(starts), turning(starts + [0]), ["a"], 6), ("part", 9, "a", 97, 90))

    def test_behind_most_where_the_rounds_begin_late(self):
        one = led([0, 7, 7, 7], 20)
        other = led([7, 0, 7, 7, 7], 20)
        self.assertEqual((round_of(one, 18), round_of(other, 18)), (("round", 14, 4, 40), ("round", 13, 5, 50)))
        self.assertEqual(held_against(one, other, ["z"], 18), ("part", 21, "z", 216, 217))
        self.assertEqual(held_against(other, one, ["z"], 18), ("part", 21, "z", 217, 216))

    def test_late_rounds_against_looking(self):
        late = 0
        for starts in itertools.product([0, 7], repeat=3):
            for again in itertools.product([0, 7], repeat=4):
                one, other = led(starts, 20), led(again, 20)
                rounds = [round_of(one, 60), round_of(other, 60)]
                most = max(told[1] + told[2] for told in rounds)
                wanted = held_by_looking(one, other, ["z"], most)
                self.assertEqual(held_against(one, other, ["z"], most), wanted, (starts, again))
                late += wanted[0] == "part" and wanted[1] > most
        self.assertGreater(late, 2)

    def test_kinds(self):
        told = held_against(turning([0, 1]), turning([0, 2]), ["a"], 5)
        self.assertIs(type(told), tuple)
        self.assertEqual([type(part) for part in told], [str, int, str, int, int])

    def test_all_short_rings_against_looking(self):
        rings = [starts for many in range(1, 5) for starts in itertools.product([0, 7], repeat=many)]
        seen = set()
        for starts in rings:
            for again in rings:
                one, other = turning(starts), turning(again)
                for most in (3, 4):
                    wanted = held_by_looking(one, other, ["a"], most)
                    if wanted == "no round":
                        with self.assertRaises(NoRound):
                            held_against(one, other, ["a"], most)
                    else:
                        self.assertEqual(held_against(one, other, ["a"], most), wanted, (starts, again))
                        seen.add(wanted[0] + (" late" if wanted[0] == "part" and wanted[1] > most else ""))
        self.assertEqual(seen, {"alike", "part", "part late"})

    def test_many_choirs_against_looking(self):
        for seed in range(100):
            one = some_choir(seed, bells=3)
            number, place = seed % 3, 0
            name, start, rule, listenings = one[number]
            whom, beats, back = listenings[place]
            changed = (name, start, rule, ((whom, beats + 1 + seed % 2, back),) + listenings[1:])
            other = one[:number] + (changed,) + one[number + 1:]
            if waiting(one) == []:
                names = [bell[0] for bell in one]
                wanted = held_by_looking(one, other, names, 30)
                with self.subTest(seed=seed):
                    if wanted == "no round":
                        with self.assertRaises(NoRound):
                            held_against(one, other, names, 30)
                    else:
                        self.assertEqual(held_against(one, other, names, 30), wanted)


class Refusing(unittest.TestCase):
    def assert_refused(self, kind, one, other, names, most):
        ahead = list(names)
        with self.assertRaises(kind) as taken:
            held_against(one, other, names, most)
        self.assertIs(type(taken.exception), kind)
        self.assertIsInstance(taken.exception, BellError)
        self.assertEqual(names, ahead)
        return taken.exception

    def test_names_that_are_not_in_both(self):
        # c is in the second alone, zz in neither.
        self.assertEqual(self.assert_refused(NoName, PAIR, PAIR_TOO, ["c"], 9).name, "c")
        self.assertEqual(self.assert_refused(NoName, PAIR_TOO, PAIR, ["c"], 9).name, "c")
        self.assertEqual(self.assert_refused(NoName, PAIR, PAIR_TOO, ["zz"], 9).name, "zz")
        self.assertEqual(self.assert_refused(NoName, PAIR, PAIR_TOO, [""], 9).name, "")

    def test_the_first_that_is_not_in_both(self):
        self.assertEqual(self.assert_refused(NoName, PAIR, PAIR_TOO, ["a", "c", "zz"], 9).name, "c")
        self.assertEqual(self.assert_refused(NoName, PAIR, PAIR_TOO, ["a", "b", "zz", "c"], 9).name, "zz")
        self.assertEqual(self.assert_refused(NoName, PAIR_TOO, PAIR, ["c", "zz", "a"], 9).name, "c")

    def test_waiting_of_the_first_and_of_the_second(self):
        self.assertEqual(self.assert_refused(Waiting, STUCK, PAIR, ["a"], 9).names, ["a"])
        self.assertEqual(self.assert_refused(Waiting, PAIR, STUCK, ["b"], 9).names, ["a"])
        self.assertEqual(self.assert_refused(Waiting, STUCK, STUCK_TOO, ["a"], 9).names, ["a"])
        self.assertEqual(self.assert_refused(Waiting, STUCK_TOO, STUCK, ["a"], 9).names, ["b"])

    def test_waiting_ahead_of_parting(self):
        other = (("a", 9, "all", ((0, 1, 1),)),)
        self.assert_refused(Waiting, STUCK, other, ["a"], 9)
        self.assert_refused(Waiting, other, STUCK, ["a"], 9)

    def test_names_ahead_of_waiting(self):
        self.assertEqual(self.assert_refused(NoName, STUCK, PAIR, ["a", "zz"], 9).name, "zz")
        self.assertEqual(self.assert_refused(NoName, PAIR, STUCK, ["zz"], 9).name, "zz")

    def test_no_round_with_its_field(self):
        alone = APART[:1]
        for most in (1, 9, 500):
            for one, other in ((APART, APART), (APART, alone), (alone, APART)):
                error = self.assert_refused(NoRound, one, other, ["a"], most)
                self.assertEqual(error.most, most)
                self.assertIs(type(error.most), int)


if __name__ == "__main__":
    unittest.main()
