import unittest

from earbells.hearing import hears

from helper import heard_bells, some_choir


def choir_of(*whoms):
    """A choir in which each bell listens to the told ones."""
    return tuple(
        ("abcdef"[number], 0, "all", tuple((whom, 1, 1) for whom in each)) for number, each in enumerate(whoms))


class Hears(unittest.TestCase):
    def test_itself_alone(self):
        self.assertEqual(hears(choir_of([0]), 0), [0])

    def test_with_and_without_itself(self):
        choir = choir_of([1], [1], [0, 2])
        self.assertEqual(hears(choir, 0), [1])
        self.assertEqual(hears(choir, 1), [1])
        self.assertEqual(hears(choir, 2), [0, 1, 2])

    def test_itself_through_others(self):
        choir = choir_of([1], [2], [0])
        for bell in range(3):
            self.assertEqual(hears(choir, bell), [0, 1, 2])

    def test_through_others_rising(self):
        choir = choir_of([5], [1], [0], [3, 3], [2], [3])
        self.assertEqual(hears(choir, 4), [0, 2, 3, 5])
        self.assertEqual(hears(choir, 2), [0, 3, 5])
        self.assertEqual(hears(choir, 0), [3, 5])
        self.assertEqual(hears(choir, 5), [3])
        self.assertEqual(hears(choir, 3), [3])
        self.assertEqual(hears(choir, 1), [1])

    def test_a_bell_that_hears_all(self):
        choir = choir_of([1], [2], [3], [4], [5], [0])
        for bell in range(6):
            self.assertEqual(hears(choir, bell), [0, 1, 2, 3, 4, 5])
        self.assertEqual(hears(choir_of([0], [1], [5, 4, 3, 2, 1, 0], [3], [4], [5]), 2), [0, 1, 2, 3, 4, 5])

    def test_listenings_of_either_back_and_any_rule_count(self):
        choir = (("a", 0, "any", ((1, 4, 0), (2, 1, 1))), ("b", 0, 1, ((1, 1, 1),)), ("c", 0, 1, ((2, 1, 1),)))
        self.assertEqual(hears(choir, 0), [1, 2])

    def test_against_a_plain_search(self):
        for seed in range(200):
            choir = some_choir(seed)
            for bell in range(len(choir)):
                self.assertEqual(hears(choir, bell), heard_bells(choir, bell), (seed, bell))

    def test_the_list_told_is_the_askers_own(self):
        choir = choir_of([1], [0])
        told = hears(choir, 0)
        self.assertIs(type(told), list)
        told.clear()
        self.assertEqual(hears(choir, 0), [0, 1])


if __name__ == "__main__":
    unittest.main()
