import itertools
import unittest

from earbells.errors import BellError, NoRule
from earbells.rules import All, Any, Rule, Some, rule_of


class ClaimsToEqualAll:
    def __eq__(self, other):
        return True

    __hash__ = None


class RefusesToBeCompared:
    def __eq__(self, other):
        raise RuntimeError("compared")

    __hash__ = None


def least_beat_by_which(wants, beats):
    come = [beat for beat in beats if beat is not None]
    good = [beat for beat in come if len([b for b in come if b <= beat]) >= wants]
    return min(good, default=None)


def all_rules(many):
    words = ["all", "any"] + list(range(1, many + 1))
    return [rule_of(word, many) for word in words]


class Making(unittest.TestCase):
    def test_all(self):
        for many in range(1, 9):
            rule = rule_of("all", many)
            self.assertIs(type(rule), All)
            self.assertIsInstance(rule, Rule)
            self.assertEqual(rule.wants(), many)

    def test_any(self):
        for many in range(1, 9):
            rule = rule_of("any", many)
            self.assertIs(type(rule), Any)
            self.assertIsInstance(rule, Rule)
            self.assertEqual(rule.wants(), 1)

    def test_numbers(self):
        for many in range(1, 9):
            for need in range(1, many + 1):
                with self.subTest(many=many, need=need):
                    rule = rule_of(need, many)
                    self.assertIs(type(rule), Some)
                    self.assertIsInstance(rule, Rule)
                    self.assertEqual(rule.wants(), need)

    def test_no_class_stands_under_another_but_rule(self):
        for kind in (All, Any, Some):
            self.assertTrue(issubclass(kind, Rule))
            for other in (All, Any, Some):
                self.assertEqual(issubclass(kind, other), kind is other)

    def test_wants_is_a_whole_number(self):
        for many in range(1, 9):
            for rule in all_rules(many):
                self.assertIs(type(rule.wants()), int)

    def test_rules_made_apart_stay_apart(self):
        rules = [rule_of("all", 3), rule_of("all", 5), rule_of(2, 3), rule_of(4, 5)]
        self.assertEqual([rule.wants() for rule in rules], [3, 5, 2, 4])


class Refusing(unittest.TestCase):
    def assert_refused(self, word, many):
        with self.assertRaises(NoRule) as taken:
            rule_of(word, many)
        self.assertIs(type(taken.exception), NoRule)
        self.assertIsInstance(taken.exception, BellError)

    def test_numbers_beyond_the_listenings(self):
        for many in range(1, 9):
            for need in (0, -1, -many, many + 1, many + 2, 9, 10 ** 60, -(10 ** 60)):
                with self.subTest(many=many, need=need):
                    self.assert_refused(need, many)

    def test_truths_and_none(self):
        for many in range(1, 9):
            for word in (True, False, None):
                with self.subTest(many=many, word=word):
                    self.assert_refused(word, many)

    def test_texts(self):
        texts = [
            "", " ", "0", "1", "2", "-1", "some", "none", "bell", "All", "ALL", "Any",
            " all", "all ", "any ", "all\n", "allany", "al", "an", "a", "all any",
        ]
        for many in (1, 2, 8):
            for text in texts:
                with self.subTest(many=many, text=text):
                    self.assert_refused(text, many)

    def test_other_kinds(self):
        things = [
            [], [1], ["all"], (), (1,), ("any",), {}, {"all": 1}, {1: 1}, set(),
            1.0, 2.0, b"all", object(), All, rule_of("all", 2), len,
            ClaimsToEqualAll(), RefusesToBeCompared(),
        ]
        for many in (1, 2, 8):
            for place, thing in enumerate(things):
                with self.subTest(many=many, place=place):
                    self.assert_refused(thing, many)

    def test_what_is_refused_is_not_changed(self):
        as_list = ["all", [1]]
        as_dict = {"all": [1]}
        self.assert_refused(as_list, 2)
        self.assert_refused(as_dict, 2)
        self.assertEqual(as_list, ["all", [1]])
        self.assertEqual(as_dict, {"all": [1]})


class Falling(unittest.TestCase):
    def test_all_wants_the_last(self):
        self.assertEqual(rule_of("all", 3).falls([5, 9, 2]), 9)
        self.assertEqual(rule_of("all", 3).falls([9, 5, 2]), 9)
        self.assertEqual(rule_of("all", 1).falls([4]), 4)
        self.assertIsNone(rule_of("all", 3).falls([5, None, 2]))

    def test_any_wants_the_first(self):
        self.assertEqual(rule_of("any", 3).falls([5, 9, 2]), 2)
        self.assertEqual(rule_of("any", 3).falls([None, 9, None]), 9)
        self.assertEqual(rule_of("any", 1).falls([4]), 4)
        self.assertIsNone(rule_of("any", 3).falls([None, None, None]))

    def test_a_number_wants_the_first_one_between_or_the_last(self):
        beats = [30, 10, 50, 20, 40]
        falls = [rule_of(need, 5).falls(beats) for need in range(1, 6)]
        self.assertEqual(falls, [10, 20, 30, 40, 50])

    def test_equal_beats_count_each(self):
        self.assertEqual(rule_of(2, 3).falls([4, 4, 9]), 4)
        self.assertEqual(rule_of(2, 3).falls([9, 4, 9]), 9)
        self.assertEqual(rule_of("all", 3).falls([4, 4, 4]), 4)

    def test_too_few_come(self):
        self.assertIsNone(rule_of(2, 3).falls([None, 7, None]))
        self.assertEqual(rule_of(2, 3).falls([7, None, 4]), 7)
        for rule in all_rules(8):
            self.assertIsNone(rule.falls([None] * 8))

    def test_beat_nought_has_come(self):
        self.assertEqual(rule_of("any", 2).falls([0, None]), 0)
        self.assertEqual(rule_of("all", 2).falls([0, 0]), 0)
        self.assertEqual(rule_of(1, 2).falls([3, 0]), 0)

    def test_long_beats_are_ordered_as_numbers(self):
        beats = [9, 10, 10 ** 60, 100]
        falls = [rule_of(need, 4).falls(beats) for need in range(1, 5)]
        self.assertEqual(falls, [9, 10, 100, 10 ** 60])

    def test_every_short_list(self):
        for many in range(1, 5):
            rules = all_rules(many)
            for beats in itertools.product([None, 0, 3, 11], repeat=many):
                for rule in rules:
                    wanted = least_beat_by_which(rule.wants(), beats)
                    self.assertEqual(rule.falls(list(beats)), wanted, (beats, rule.wants()))

    def test_longer_lists_in_any_order(self):
        beats = [6, None, 2, 6, 12, 1, None, 8]
        for turn in range(8):
            turned = beats[turn:] + beats[:turn]
            for rule in all_rules(8):
                wanted = least_beat_by_which(rule.wants(), turned)
                self.assertEqual(rule.falls(turned), wanted)

    def test_the_list_stays_and_the_answer_too(self):
        beats = [7, None, 4, 4, 1]
        for rule in all_rules(5):
            first = rule.falls(beats)
            self.assertEqual(beats, [7, None, 4, 4, 1])
            rule.falls([None, 0, 99, None, 2])
            self.assertEqual(rule.falls(beats), first)
            self.assertEqual(beats, [7, None, 4, 4, 1])


if __name__ == "__main__":
    unittest.main()
