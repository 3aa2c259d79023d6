"""What point 3 promises over the whole, of choirs told to a desk."""

import unittest
from fractions import Fraction

from earbells.choirtexts import read_choir, show_choir
from earbells.desk import Desk
from earbells.errors import BellError, Mixed, NoRound, Waiting

from helper import Chooser, some_choir, strokes_beat_by_beat, wants

# Of each sort of rules the seeds of the choirs told here.
SEEDS = [(sort, seed) for sort in ("all", "any", "mixed") for seed in range(40)]


def told_choirs():
    for sort, seed in SEEDS:
        choir = some_choir(seed, sort, bells=1 + seed % 4)
        desk = Desk()
        desk.say("choir told " + "; ".join(show_choir(choir)))
        yield seed, choir, desk


def beats_of(desk, word, name, numbers):
    told = [desk.say("stroke " + word + " " + name + " " + str(n)) for n in numbers]
    return [None if beat == "never" else int(beat) for beat in told]


def says(desk, row):
    """The answer, or the class of the refusal."""
    try:
        return desk.say(row)
    except BellError as error:
        return type(error)


class Strokes(unittest.TestCase):
    def test_each_stroke_falls_at_the_told_beat_or_never(self):
        for seed, choir, desk in told_choirs():
            # Five strokes of at most four hops of nine beats, behind START 12.
            slow = strokes_beat_by_beat(choir, 5, 12 + 5 * 4 * 9)
            for number, bell in enumerate(choir):
                wanted = [beats[number] for beats in slow]
                self.assertEqual(beats_of(desk, "told", bell[0], range(6)), wanted, seed)

    def test_those_that_wait_are_told(self):
        answers = set()
        for seed, choir, desk in told_choirs():
            names = [bell[0] for bell in choir if desk.say("stroke told " + bell[0] + " 1") == "never"]
            self.assertEqual(desk.say("waits told"), " ".join(names) or "none", seed)
            answers.add(bool(names))
        self.assertEqual(answers, {True, False})


class Paces(unittest.TestCase):
    def test_strokes_come_in_the_mean_as_the_ring(self):
        kinds = set()
        for seed, choir, desk in told_choirs():
            for bell in choir:
                told = says(desk, "pace told " + bell[0])
                kinds.add(told if isinstance(told, type) else "pace")
                if isinstance(told, type):
                    self.assertEqual(says(desk, "ring told " + bell[0]), told)
                else:
                    beats = beats_of(desk, "told", bell[0], [100, 500])
                    mean = Fraction(beats[1] - beats[0], 400)
                    self.assertLess(abs(mean - Fraction(told)), Fraction(1, 10), seed)
        self.assertEqual(kinds, {"pace", Waiting, Mixed})

    def test_refused_just_where_bells_wait_or_rules_are_mixed(self):
        for seed, choir, desk in told_choirs():
            needs = [(wants(bell[2], len(bell[3])), len(bell[3])) for bell in choir]
            plain = all(need == many for need, many in needs) or all(need == 1 for need, many in needs)
            told = says(desk, "pace told " + choir[0][0])
            if desk.say("waits told") != "none":
                self.assertIs(told, Waiting)
            else:
                self.assertEqual(told is Mixed, not plain)


class Rounds(unittest.TestCase):
    def test_behind_a_told_stroke_the_choir_goes_round(self):
        rounds = 0
        for seed, choir, desk in told_choirs():
            told = says(desk, "round told 60")
            if told in (Waiting, "none"):
                continue
            rounds += 1
            first, many, beats = [int(word) for word in told.split(" ")]
            for bell in choir:
                for n in (first, first + 1, first + many, first + 7, first + 200):
                    soon, late = beats_of(desk, "told", bell[0], [n, n + many])
                    self.assertEqual(late - soon, beats, (seed, n))
        self.assertGreater(rounds, 30)

    def test_alike_for_ever_or_parting_first_at_the_told_stroke(self):
        kinds = set()
        for seed, choir, desk in told_choirs():
            chooser = Chooser(seed)
            bell = chooser.below(len(choir))
            place = chooser.below(len(choir[bell][3]))
            desk.say("choir again " + "; ".join(show_choir(choir)))
            desk.say("slow again " + choir[bell][0] + " " + str(place) + " 2")
            names = [entry[0] for entry in choir]
            told = says(desk, "alike told again 20 " + " ".join(names))
            kinds.add(told if told in (Waiting, NoRound, "alike") else "part")
            beats = [[beats_of(desk, word, name, range(25)) for name in names] for word in ("told", "again")]
            apart = [(n, place) for n in range(25) for place in range(len(names))
                     if beats[0][place][n] != beats[1][place][n]]
            if told in (Waiting, NoRound):
                self.assertEqual([n for n, place in apart if n <= 20 and told is NoRound], [])
            elif told == "alike":
                self.assertEqual(apart, [])
            else:
                n, place = apart[0]
                wanted = [str(n), names[place], str(beats[0][place][n]), str(beats[1][place][n])]
                self.assertEqual(told.split(" "), wanted)
        self.assertLessEqual({"part", "alike", Waiting}, kinds)


class Slower(unittest.TestCase):
    def test_none_earlier_and_the_nth_by_at_most_n_times_as_much(self):
        for seed, choir, desk in told_choirs():
            chooser = Chooser(seed + 77)
            bell = chooser.below(len(choir))
            place = chooser.below(len(choir[bell][3]))
            more = chooser.between(0, 30)
            before = [beats_of(desk, "told", entry[0], range(12)) for entry in choir]
            desk.say("slow told " + choir[bell][0] + " " + str(place) + " " + str(more))
            for number, entry in enumerate(choir):
                for n, late in enumerate(beats_of(desk, "told", entry[0], range(12))):
                    soon = before[number][n]
                    if soon is None:
                        self.assertIsNone(late)
                    else:
                        self.assertTrue(0 <= late - soon <= n * more, (seed, n))


class Written(unittest.TestCase):
    def test_what_is_written_is_read_again_as_the_same(self):
        for seed, choir, desk in told_choirs():
            shown = desk.say("show told")
            self.assertEqual(desk.say("choir again " + shown), "ok")
            self.assertEqual(desk.say("show again"), shown)
            read = read_choir(shown.split("; "))
            self.assertEqual([bell[:2] + bell[3:] for bell in read], [bell[:2] + bell[3:] for bell in choir])
            for bell, again in zip(choir, read):
                self.assertEqual(wants(bell[2], len(bell[3])), wants(again[2], len(again[3])))

    def test_joined_without_ties_each_stroke_falls_as_ahead(self):
        for seed, choir, desk in told_choirs():
            desk.say("choir more x 3 any y+2 x+9; y 8 all x+4=")
            self.assertEqual(desk.say("join both told more"), "ok")
            for word, names in (("told", [bell[0] for bell in choir]), ("more", ["x", "y"])):
                for name in names:
                    self.assertEqual(
                        beats_of(desk, "both", name, range(8)), beats_of(desk, word, name, range(8)), seed)


if __name__ == "__main__":
    unittest.main()
