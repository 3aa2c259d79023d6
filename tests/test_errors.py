import unittest

from earbells.errors import (
    BellError, Mixed, NoChoir, NoListening, NoName, NoRound, NoRow, NoRule,
    NoStand, NoText, Waiting,
)

BARE = [NoRule, Mixed, NoListening, NoRow, NoStand]
WITH_FIELD = [
    (NoChoir, "bell", [0, 3, 5, None]),
    (NoText, "row", [0, 2, 5, None]),
    (Waiting, "names", [["treble"], ["a", "b", "c"], []]),
    (NoName, "name", ["tenor", ""]),
    (NoRound, "most", [1, 500]),
]
ALL_TEN = BARE + [entry[0] for entry in WITH_FIELD]


def made(kind):
    for entry in WITH_FIELD:
        if entry[0] is kind:
            return kind(entry[2][0])
    return kind()


class Standing(unittest.TestCase):
    def test_there_are_ten(self):
        self.assertEqual(len(set(ALL_TEN)), 10)

    def test_bell_error_is_a_value_error(self):
        self.assertTrue(issubclass(BellError, ValueError))

    def test_each_is_a_bell_error_and_a_value_error(self):
        for kind in ALL_TEN:
            with self.subTest(kind=kind.__name__):
                self.assertIsNot(kind, BellError)
                self.assertIsInstance(made(kind), BellError)
                self.assertIsInstance(made(kind), ValueError)

    def test_none_is_one_of_the_nine_others(self):
        for kind in ALL_TEN:
            for other in ALL_TEN:
                if other is not kind:
                    with self.subTest(kind=kind.__name__, other=other.__name__):
                        self.assertNotIsInstance(made(kind), other)

    def test_each_is_raised_and_taken_by_its_name(self):
        for kind in ALL_TEN:
            with self.subTest(kind=kind.__name__):
                with self.assertRaises(kind):
                    raise made(kind)
                with self.assertRaises(BellError):
                    raise made(kind)


class Fields(unittest.TestCase):
    def test_field_is_what_it_was_made_with(self):
        for kind, field, values in WITH_FIELD:
            for value in values:
                with self.subTest(kind=kind.__name__, value=value):
                    self.assertEqual(getattr(kind(value), field), value)
                    self.assertIs(type(getattr(kind(value), field)), type(value))

    def test_field_may_be_told_by_its_name(self):
        for kind, field, values in WITH_FIELD:
            with self.subTest(kind=kind.__name__):
                self.assertEqual(getattr(kind(**{field: values[0]}), field), values[0])

    def test_field_is_there_when_taken(self):
        try:
            raise NoChoir(4)
        except BellError as error:
            self.assertEqual(error.bell, 4)

    def test_fields_of_two_refusals_are_apart(self):
        first = NoName("treble")
        second = NoName("tenor")
        self.assertEqual((first.name, second.name), ("treble", "tenor"))


class NamesAreTheAskersOwn(unittest.TestCase):
    def test_later_changes_of_the_list_do_not_reach_the_field(self):
        names = ["treble", "tenor"]
        error = Waiting(names)
        names.append("third")
        self.assertEqual(error.names, ["treble", "tenor"])

    def test_changing_the_field_leaves_what_was_handed_in(self):
        names = ["treble", "tenor"]
        error = Waiting(names)
        error.names.clear()
        self.assertEqual(names, ["treble", "tenor"])


if __name__ == "__main__":
    unittest.main()
