import unittest

from earbells.choirs import checked
from earbells.errors import BellError, NoListening
from earbells.slower import later_strokes, made_slower
from earbells.strokes import strokes

from helper import Chooser, some_choir

PAIR = (("a", 0, "all", ((1, 2, 1), (0, 5, 1))), ("b", 1, "all", ((0, 3, 0),)))
STUCK = (("z", 0, "all", ((0, 1, 0), (1, 1, 1))), ("m", 0, "all", ((1, 4, 1),)), ("c", 0, "all", ((0, 5, 1),)))

NO_NUMBERS = [-1, -2, -1000, True, False, None, "", "0", "1", 0.0, 1.0, (), (0,), [], [0], {}, object()]


class MadeSlower(unittest.TestCase):
    def test_told(self):
        self.assertEqual(
            made_slower(PAIR, 0, 1, 4), (("a", 0, "all", ((1, 2, 1), (0, 9, 1))), ("b", 1, "all", ((0, 3, 0),))))
        self.assertEqual(
            made_slower(PAIR, 0, 0, 1), (("a", 0, "all", ((1, 3, 1), (0, 5, 1))), ("b", 1, "all", ((0, 3, 0),))))
        self.assertEqual(
            made_slower(PAIR, 1, 0, 7), (("a", 0, "all", ((1, 2, 1), (0, 5, 1))), ("b", 1, "all", ((0, 10, 0),))))

    def test_by_nought(self):
        for bell, place in ((0, 0), (0, 1), (1, 0)):
            self.assertEqual(made_slower(PAIR, bell, place, 0), PAIR)

    def test_to_a_thousand(self):
        self.assertEqual(made_slower(PAIR, 1, 0, 997)[1][3], ((0, 1000, 0),))
        full = (("a", 0, "all", ((0, 1000, 1),)),)
        self.assertEqual(made_slower(full, 0, 0, 0), full)

    def test_the_rule_stays_as_told(self):
        for rule in ("all", "any", 1, 2):
            choir = (("a", 0, rule, ((0, 1, 1), (0, 2, 0))),)
            self.assertEqual(made_slower(choir, 0, 1, 3), (("a", 0, rule, ((0, 1, 1), (0, 5, 0))),))

    def test_the_choir_handed_in_stays(self):
        ahead = (("a", 0, "all", ((1, 2, 1), (0, 5, 1))), ("b", 1, "all", ((0, 3, 0),)))
        told = made_slower(PAIR, 0, 0, 50)
        self.assertEqual(PAIR, ahead)
        self.assertNotEqual(told, PAIR)

    def test_it_is_a_choir_in_which_one_listening_differs(self):
        for seed in range(60):
            choir = some_choir(seed)
            for bell in range(len(choir)):
                for place in range(len(choir[bell][3])):
                    told = checked(made_slower(choir, bell, place, 6))
                    apart = [
                        (number, spot, slow[1] - quick[1])
                        for number, (before, after) in enumerate(zip(choir, told))
                        for spot, (quick, slow) in enumerate(zip(before[3], after[3])) if quick != slow]
                    self.assertEqual(apart, [(bell, place, 6)])
                    self.assertEqual([entry[:3] for entry in told], [entry[:3] for entry in choir])


class Refusing(unittest.TestCase):
    def assert_refused(self, choir, bell, place, more):
        for asked in (made_slower, lambda *words: later_strokes(*words, 3), lambda *words: later_strokes(*words, 0)):
            with self.assertRaises(NoListening) as taken:
                asked(choir, bell, place, more)
            self.assertIs(type(taken.exception), NoListening)
            self.assertIsInstance(taken.exception, BellError)

    def test_no_such_bell(self):
        for bell in NO_NUMBERS + [2, 3, 6, 10 ** 60]:
            with self.subTest(bell=bell):
                self.assert_refused(PAIR, bell, 0, 1)

    def test_no_such_place(self):
        for place in NO_NUMBERS + [2, 3, 6, 10 ** 60]:
            with self.subTest(place=place):
                self.assert_refused(PAIR, 0, place, 1)
        self.assert_refused(PAIR, 1, 1, 1)

    def test_more_that_is_none(self):
        for more in NO_NUMBERS:
            with self.subTest(more=more):
                self.assert_refused(PAIR, 0, 0, more)

    def test_beyond_a_thousand(self):
        self.assert_refused(PAIR, 0, 0, 999)
        self.assert_refused(PAIR, 1, 0, 998)
        self.assert_refused(PAIR, 1, 0, 1000)
        self.assert_refused(PAIR, 1, 0, 10 ** 60)
        self.assert_refused((("a", 0, "all", ((0, 1000, 1),)),), 0, 0, 1)

    def test_several_at_once(self):
        self.assert_refused(PAIR, None, None, None)
        self.assert_refused(PAIR, 2, -1, 5000)
        self.assert_refused(PAIR, True, "0", -1)

    def test_where_bells_wait_it_is_made_slower_all_the_same(self):
        self.assertEqual(made_slower(STUCK, 0, 0, 2)[0][3], ((0, 3, 0), (1, 1, 1)))


class Later(unittest.TestCase):
    def test_told(self):
        self.assertEqual(later_strokes(PAIR, 1, 0, 4, 3), [
            (1, "b", 4), (2, "a", 4), (2, "b", 8), (3, "a", 8), (3, "b", 12)])

    def test_up_to_nought_strokes(self):
        self.assertEqual(later_strokes(PAIR, 1, 0, 4, 0), [])

    def test_none_where_it_decides_nothing(self):
        choir = (("a", 0, "all", ((0, 9, 1), (0, 2, 1))),)
        self.assertEqual(later_strokes(choir, 0, 1, 7, 50), [])
        self.assertEqual(later_strokes(choir, 0, 1, 8, 2), [(1, "a", 1), (2, "a", 2)])
        choir = (("a", 0, "any", ((0, 9, 1), (0, 2, 1))),)
        self.assertEqual(later_strokes(choir, 0, 0, 900, 50), [])

    def test_by_nought(self):
        self.assertEqual(later_strokes(PAIR, 0, 1, 0, 50), [])

    def test_strokes_that_never_fall(self):
        self.assertEqual(later_strokes(STUCK, 0, 1, 10, 5), [])
        self.assertEqual(later_strokes(STUCK, 2, 0, 10, 5), [(1, "c", 10)])

    def test_sorted_by_number_then_name(self):
        choir = (("z", 0, "all", ((0, 1, 1),)), ("m", 0, "all", ((0, 1, 0),)), ("c", 0, "all", ((1, 1, 1),)))
        self.assertEqual(later_strokes(choir, 0, 0, 2, 2), [
            (1, "m", 2), (1, "z", 2), (2, "c", 2), (2, "m", 4), (2, "z", 4)])

    def test_two_thousand_strokes(self):
        told = later_strokes((("a", 0, "all", ((0, 1, 1),)),), 0, 0, 999, 2000)
        self.assertEqual(told, [(n, "a", 999 * n) for n in range(1, 2001)])

    def test_against_the_strokes(self):
        some_later = 0
        for seed in range(150):
            choir = some_choir(seed)
            chooser = Chooser(seed)
            bell = chooser.below(len(choir))
            place = chooser.below(len(choir[bell][3]))
            more = chooser.between(0, 20)
            before, after = strokes(choir, 12), strokes(made_slower(choir, bell, place, more), 12)
            wanted = []
            for n in range(13):
                for number in range(len(choir)):
                    soon, late = before[n][number], after[n][number]
                    self.assertEqual(soon is None, late is None)
                    if soon is not None:
                        # Never earlier, and by at most n times as many beats.
                        self.assertTrue(0 <= late - soon <= n * more, (seed, n, number))
                        if late != soon:
                            wanted.append((n, choir[number][0], late - soon))
            told = later_strokes(choir, bell, place, more, 12)
            self.assertEqual(told, sorted(wanted), seed)
            some_later += len(told)
        self.assertGreater(some_later, 300)

    def test_the_list_told_is_the_askers_own(self):
        told = later_strokes(PAIR, 1, 0, 4, 1)
        self.assertIs(type(told), list)
        self.assertIs(type(told[0]), tuple)
        told.clear()
        self.assertEqual(later_strokes(PAIR, 1, 0, 4, 1), [(1, "b", 4)])


if __name__ == "__main__":
    unittest.main()
