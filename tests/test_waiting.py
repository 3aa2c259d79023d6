import unittest

from earbells.strokes import strokes
from earbells.waiting import stops, waiting

from helper import some_choir, wants

# a waits for itself; b hears a of the stroke ahead; and so on down the chain.
CHAIN = (("a", 0, "all", ((0, 1, 0),)),) + tuple(
    (name, 0, "all", ((number, 1, 1),)) for number, name in enumerate("bcdef"))
FREE = (("a", 0, "all", ((0, 3, 1),)), ("b", 0, "any", ((0, 1, 0), (1, 1, 1))))


class Waits(unittest.TestCase):
    def test_none_waits(self):
        self.assertEqual(waiting(FREE), [])
        self.assertEqual(stops(FREE), [None, None])

    def test_all_wait(self):
        choir = (("z", 0, "all", ((1, 1, 0),)), ("a", 9, "any", ((0, 1, 0),)))
        self.assertEqual(waiting(choir), ["z", "a"])
        self.assertEqual(stops(choir), [1, 1])

    def test_some_wait_in_the_order_of_the_bells(self):
        choir = (
            ("z", 0, "all", ((2, 1, 0),)), ("m", 0, "all", ((1, 1, 1),)), ("a", 0, "all", ((0, 1, 0), (1, 1, 1))),
            ("c", 0, "any", ((0, 1, 0), (1, 1, 0))))
        self.assertEqual(waiting(choir), ["z", "a"])
        self.assertEqual(stops(choir), [1, None, 1, None])

    def test_a_bell_that_hears_one_that_waits_of_the_same_stroke(self):
        choir = (("a", 0, "all", ((0, 1, 0),)), ("b", 0, "all", ((0, 1, 0),)), ("c", 0, "all", ((0, 1, 1),)))
        self.assertEqual(waiting(choir), ["a", "b"])
        self.assertEqual(stops(choir), [1, 1, 2])

    def test_a_number_that_can_or_cannot_be_had(self):
        listenings = ((0, 1, 0), (1, 2, 1), (1, 3, 1))
        for need, names, ends in ((1, ["a"], [1, None]), (2, ["a"], [1, None]), (3, ["a", "b"], [1, 1])):
            choir = (("a", 0, "all", ((0, 1, 0),)), ("b", 0, need, listenings))
            self.assertEqual(waiting(choir), names)
            self.assertEqual(stops(choir), ends)

    def test_stopping_later_than_at_stroke_one(self):
        self.assertEqual(waiting(CHAIN), ["a"])
        self.assertEqual(stops(CHAIN), [1, 2, 3, 4, 5, 6])

    def test_stopping_at_different_strokes_or_never(self):
        choir = (
            ("a", 0, "all", ((0, 1, 0),)), ("b", 0, "all", ((0, 1, 1), (4, 1, 1))), ("c", 0, 2, ((1, 1, 1), (4, 1, 1))),
            ("d", 0, "any", ((2, 1, 1), (4, 1, 1))), ("e", 0, "all", ((4, 2, 1),)))
        self.assertEqual(stops(choir), [1, 2, 3, None, None])
        self.assertEqual(waiting(choir), ["a"])

    def test_kinds(self):
        self.assertIs(type(waiting(FREE)), list)
        self.assertIs(type(stops(CHAIN)), list)
        for end in stops(CHAIN):
            self.assertIs(type(end), int)

    def test_against_the_strokes(self):
        seen = set()
        for seed in range(300):
            choir = some_choir(seed, backs=(0, 0, 1))
            told = strokes(choir, 20)
            ends = []
            for number in range(len(choir)):
                missing = [n for n in range(21) if told[n][number] is None]
                ends.append(missing[0] if missing else None)
                # Once it has stopped it stays so.
                self.assertEqual(missing, list(range(missing[0], 21)) if missing else [])
            with self.subTest(seed=seed):
                self.assertEqual(stops(choir), ends)
                self.assertEqual(waiting(choir), [bell[0] for bell, end in zip(choir, ends) if end == 1])
            seen.update(ends)
        self.assertLessEqual({None, 1, 2}, seen)

    def test_those_that_wait_want_more_than_they_can_have(self):
        for seed in range(200):
            choir = some_choir(seed, backs=(0, 0, 1))
            names = waiting(choir)
            for name, start, rule, listenings in choir:
                free = [entry for entry in listenings if entry[2] == 1 or choir[entry[0]][0] not in names]
                self.assertEqual(name in names, wants(rule, len(listenings)) > len(free), (seed, name))

    def test_where_none_waits_every_stroke_falls(self):
        for seed in range(200):
            choir = some_choir(seed)
            if waiting(choir) == []:
                self.assertEqual(stops(choir), [None] * len(choir))
                self.assertNotIn(None, strokes(choir, 40)[40])

    def test_the_lists_told_are_the_askers_own(self):
        told = waiting(CHAIN)
        told.append("more")
        ends = stops(CHAIN)
        ends.clear()
        self.assertEqual(waiting(CHAIN), ["a"])
        self.assertEqual(stops(CHAIN), [1, 2, 3, 4, 5, 6])


if __name__ == "__main__":
    unittest.main()
