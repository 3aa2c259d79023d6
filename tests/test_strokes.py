import unittest

from earbells.strokes import heard, strokes

from helper import some_choir, strokes_beat_by_beat, wants

ALONE = (("a", 4, "all", ((0, 3, 1),)),)
# b hears a of the same stroke; a hears b of the stroke ahead, and itself.
PAIR = (("a", 0, "all", ((1, 2, 1), (0, 5, 1))), ("b", 1, "all", ((0, 3, 0),)))


class Told(unittest.TestCase):
    def test_nought_strokes(self):
        self.assertEqual(strokes(ALONE, 0), [[4]])
        self.assertEqual(strokes(PAIR, 0), [[0, 1]])

    def test_alone(self):
        self.assertEqual(strokes(ALONE, 4), [[4], [7], [10], [13], [16]])

    def test_two_thousand_of_one_bell(self):
        told = strokes(ALONE, 2000)
        self.assertEqual(told, [[4 + 3 * n] for n in range(2001)])

    def test_two_thousand_of_six_bells(self):
        choir = tuple((name, 0, "all", tuple((whom, 1000, 1) for whom in range(6))) for name in "abcdef")
        told = strokes(choir, 2000)
        self.assertEqual(len(told), 2001)
        self.assertEqual(told[2000], [2000 * 1000] * 6)

    def test_all(self):
        # a: all of b + 2 of the stroke ahead and a + 5 of the stroke ahead
        self.assertEqual(strokes(PAIR, 3), [[0, 1], [5, 8], [10, 13], [15, 18]])

    def test_any(self):
        choir = (("a", 0, "any", ((1, 2, 1), (0, 5, 1))), ("b", 1, "any", ((0, 3, 0), (1, 1, 1))))
        self.assertEqual(strokes(choir, 3), [[0, 1], [3, 2], [4, 3], [5, 4]])

    def test_numbers(self):
        listenings = ((0, 10, 1), (0, 30, 1), (0, 20, 1), (1, 25, 1))
        for need, first in ((1, 10), (2, 20), (3, 25), (4, 30)):
            choir = (("a", 0, need, listenings), ("b", 0, 1, ((1, 1, 1),)))
            self.assertEqual(strokes(choir, 1), [[0, 0], [first, 1]])

    def test_a_chain_of_the_same_stroke(self):
        choir = (
            ("a", 7, "all", ((1, 1, 0),)), ("b", 8, "all", ((2, 1, 0),)), ("c", 9, "all", ((2, 6, 1),)))
        self.assertEqual(strokes(choir, 2), [[7, 8, 9], [17, 16, 15], [23, 22, 21]])

    def test_of_the_same_stroke_any_goes_the_quick_way(self):
        # a could hear b after 9, or c after 1, which hears b after 2.
        choir = (("a", 0, "any", ((1, 9, 0), (2, 1, 0))), ("b", 0, 1, ((1, 4, 1),)), ("c", 0, 1, ((1, 2, 0),)))
        self.assertEqual(strokes(choir, 2), [[0, 0, 0], [7, 4, 6], [11, 8, 10]])

    def test_stroke_nought_falls_whatever_is_heard(self):
        choir = (("a", 1000, "all", ((0, 1, 0),)), ("b", 3, "all", ((0, 1, 1),)))
        self.assertEqual(strokes(choir, 2), [[1000, 3], [None, 1001], [None, None]])

    def test_behind_itself_never(self):
        choir = (("a", 2, "all", ((0, 1, 0),)),)
        self.assertEqual(strokes(choir, 3), [[2], [None], [None], [None]])

    def test_behind_one_another_never(self):
        choir = (("a", 0, "all", ((1, 1, 0), (0, 1, 1))), ("b", 0, "any", ((0, 1, 0),)), ("c", 0, 1, ((2, 4, 1),)))
        self.assertEqual(strokes(choir, 2), [[0, 0, 0], [None, None, 4], [None, None, 8]])

    def test_a_ring_of_the_same_stroke_that_has_a_way_out(self):
        choir = (("a", 0, "any", ((1, 1, 0), (0, 9, 1))), ("b", 0, "any", ((0, 1, 0),)))
        self.assertEqual(strokes(choir, 2), [[0, 0], [9, 10], [18, 19]])

    def test_some_of_which_never_come(self):
        never = (("x", 0, "all", ((0, 1, 0),)),)
        listenings = ((0, 1, 0), (1, 4, 1), (1, 9, 1))
        for need, told in ((1, [0, 4, 8]), (2, [0, 9, 18]), (3, [0, None, None])):
            choir = never + (("a", 0, need, listenings),)
            self.assertEqual([beats[1] for beats in strokes(choir, 2)], told)

    def test_not_in_the_order_of_their_numbers(self):
        # a hears b alone, which begins far sooner than a does.
        choir = (("a", 1000, "all", ((1, 1, 1),)), ("b", 0, "all", ((1, 2, 1),)))
        self.assertEqual(strokes(choir, 3), [[1000, 0], [1, 2], [3, 4], [5, 6]])
        # Each hears but the other: the quick and the slow one take turns.
        choir = (("a", 0, "all", ((1, 1, 1),)), ("b", 50, "all", ((0, 1, 1),)))
        self.assertEqual(strokes(choir, 4), [[0, 50], [51, 1], [2, 52], [53, 3], [4, 54]])

    def test_kinds(self):
        told = strokes(PAIR, 2)
        self.assertIs(type(told), list)
        for beats in told:
            self.assertIs(type(beats), list)
            for beat in beats:
                self.assertIs(type(beat), int)

    def test_equal_listenings_count_each(self):
        choir = (("a", 0, 2, ((0, 3, 1), (0, 3, 1), (0, 8, 1))),)
        self.assertEqual(strokes(choir, 2), [[0], [3], [6]])

    def test_against_going_beat_by_beat(self):
        for seed in range(150):
            choir = some_choir(seed, backs=(0, 0, 1) if seed % 2 else (0, 1, 1))
            # Six strokes of at most six hops of nine beats, behind START 12.
            slow = strokes_beat_by_beat(choir, 6, 12 + 6 * 6 * 9)
            with self.subTest(seed=seed):
                self.assertEqual(strokes(choir, 6), slow)

    def test_each_stroke_against_its_rule(self):
        for seed in range(150):
            choir = some_choir(seed, top=1000)
            told = strokes(choir, 8)
            for n in range(1, 9):
                for number, (name, start, rule, listenings) in enumerate(choir):
                    come = [told[n - back][whom] + beats for whom, beats, back in listenings
                            if told[n - back][whom] is not None]
                    need = wants(rule, len(listenings))
                    wanted = sorted(come)[need - 1] if len(come) >= need else None
                    self.assertEqual(told[n][number], wanted, (seed, n, number))

    def test_fewer_strokes_are_the_first_of_more(self):
        for seed in range(20):
            choir = some_choir(seed)
            self.assertEqual(strokes(choir, 3), strokes(choir, 9)[:4])

    def test_the_lists_told_are_the_askers_own(self):
        first = strokes(PAIR, 2)
        first[0][0] = 77
        first[1].append(5)
        first.clear()
        self.assertEqual(strokes(PAIR, 2), [[0, 1], [5, 8], [10, 13]])
        told = strokes(PAIR, 3)
        self.assertEqual(len({id(beats) for beats in told}), 4)


class Heard(unittest.TestCase):
    def test_both_ends_are_counted(self):
        self.assertEqual(heard(ALONE, 7, 13), [(7, "a", 1), (10, "a", 2), (13, "a", 3)])
        self.assertEqual(heard(ALONE, 8, 12), [(10, "a", 2)])
        self.assertEqual(heard(ALONE, 10, 10), [(10, "a", 2)])
        self.assertEqual(heard(ALONE, 11, 12), [])

    def test_the_one_above_the_other(self):
        self.assertEqual(heard(ALONE, 13, 7), [])
        self.assertEqual(heard(ALONE, 8, 7), [])
        self.assertEqual(heard(ALONE, 3000, 0), [])

    def test_before_the_first_stroke(self):
        self.assertEqual(heard(ALONE, 0, 3), [])
        self.assertEqual(heard(ALONE, 0, 0), [])
        self.assertEqual(heard(ALONE, 0, 4), [(4, "a", 0)])
        late = (("a", 1000, "all", ((0, 3, 1),)),)
        self.assertEqual(heard(late, 0, 999), [])
        self.assertEqual(heard(late, 0, 1000), [(1000, "a", 0)])

    def test_from_nought(self):
        choir = (("a", 0, "all", ((0, 1, 1),)),)
        self.assertEqual(heard(choir, 0, 0), [(0, "a", 0)])
        self.assertEqual(heard(choir, 0, 3000), [(n, "a", n) for n in range(3001)])
        self.assertEqual(heard(choir, 3000, 3000), [(3000, "a", 3000)])

    def test_sorted_by_beat_then_name_then_number(self):
        choir = (("z", 5, "all", ((0, 5, 1),)), ("m", 0, "all", ((2, 5, 1),)), ("c", 5, "all", ((2, 5, 1),)))
        self.assertEqual(heard(choir, 5, 10), [
            (5, "c", 0), (5, "z", 0), (10, "c", 1), (10, "m", 1), (10, "z", 1)])

    def test_two_strokes_of_one_bell_at_one_beat(self):
        choir = (("a", 3, "all", ((1, 2, 1),)), ("b", 1, "all", ((1, 2, 1),)))
        self.assertEqual(heard(choir, 3, 3), [(3, "a", 0), (3, "a", 1), (3, "b", 1)])

    def test_strokes_out_of_their_order(self):
        choir = (("a", 40, "all", ((1, 1, 1),)), ("b", 0, "all", ((1, 15, 1),)))
        self.assertEqual(heard(choir, 0, 40), [
            (0, "b", 0), (1, "a", 1), (15, "b", 1), (16, "a", 2), (30, "b", 2), (31, "a", 3), (40, "a", 0)])

    def test_strokes_that_never_fall_are_not_heard(self):
        choir = (("a", 2, "all", ((0, 1, 0),)), ("b", 3, "all", ((0, 5, 1),)))
        self.assertEqual(heard(choir, 0, 3000), [(2, "a", 0), (3, "b", 0), (7, "b", 1)])

    def test_against_going_beat_by_beat(self):
        for seed in range(60):
            choir = some_choir(seed)
            for first, last in ((0, 40), (11, 29), (25, 25), (0, 3)):
                wanted = []
                for n, beats in enumerate(strokes_beat_by_beat(choir, last, last)):
                    for bell, beat in zip(choir, beats):
                        if beat is not None and beat >= first:
                            wanted.append((beat, bell[0], n))
                with self.subTest(seed=seed, first=first, last=last):
                    self.assertEqual(heard(choir, first, last), sorted(wanted))

    def test_the_list_told_is_the_askers_own(self):
        told = heard(PAIR, 0, 10)
        self.assertIs(type(told), list)
        ahead = list(told)
        told.clear()
        self.assertEqual(heard(PAIR, 0, 10), ahead)
        for entry in ahead:
            self.assertIs(type(entry), tuple)


if __name__ == "__main__":
    unittest.main()
