import unittest

from earbells.choirs import checked
from earbells.choirtexts import read_choir, show_choir
from earbells.errors import BellError, NoText

from helper import some_choir, wants

THREE = (
    ("treble", 0, "all", ((1, 3, 1), (0, 12, 0))),
    ("tenor", 1000, "any", ((0, 1, 1), (1, 1000, 1), (2, 7, 0))),
    ("b", 15, 2, ((2, 4, 1), (2, 4, 1), (0, 9, 0))),
)
THREE_ROWS = [
    "treble 0 all tenor+3 treble+12=",
    "tenor 1000 any treble+1 tenor+1000 b+7=",
    "b 15 2 b+4 b+4 treble+9=",
]


def of_rule(rule, many):
    return (("a", 5, rule, ((0, 2, 1),) * many),)


def rules_as_written(choir):
    """The choir with the rules that its rows bear."""
    told = []
    for name, start, rule, listenings in choir:
        need = wants(rule, len(listenings))
        word = "all" if need == len(listenings) else "any" if need == 1 else need
        told.append((name, start, word, listenings))
    return tuple(told)


class Showing(unittest.TestCase):
    def test_rows_to_the_sign(self):
        self.assertEqual(show_choir(THREE), THREE_ROWS)

    def test_a_list_of_texts(self):
        told = show_choir(THREE)
        self.assertIs(type(told), list)
        for row in told:
            self.assertIs(type(row), str)

    def test_each_way_of_a_rule(self):
        for many in range(1, 7):
            end = " a+2" * many
            with self.subTest(many=many):
                self.assertEqual(show_choir(of_rule("all", many)), ["a 5 all" + end])
                self.assertEqual(show_choir(of_rule(many, many)), ["a 5 all" + end])
                word = "all" if many == 1 else "any"
                self.assertEqual(show_choir(of_rule("any", many)), ["a 5 " + word + end])
                self.assertEqual(show_choir(of_rule(1, many)), ["a 5 " + word + end])
                for need in range(2, many):
                    self.assertEqual(show_choir(of_rule(need, many)), ["a 5 " + str(need) + end])

    def test_six_bells_and_six_listenings(self):
        names = ["a", "b", "c", "d", "e", "f"]
        listenings = tuple((whom, whom + 1, whom % 2) for whom in range(6))
        choir = tuple((name, 0, "all", listenings) for name in names)
        end = " 0 all a+1= b+2 c+3= d+4 e+5= f+6"
        self.assertEqual(show_choir(choir), [name + end for name in names])

    def test_the_rows_told_are_the_askers_own(self):
        told = show_choir(THREE)
        told[0] = "changed"
        told.append("more")
        self.assertEqual(show_choir(THREE), THREE_ROWS)


class Reading(unittest.TestCase):
    def assert_read(self, rows, choir):
        ahead = list(rows)
        told = read_choir(rows)
        self.assertEqual(told, choir)
        self.assertEqual(rows, ahead)
        self.assertEqual(checked(told), choir)
        for told_bell, bell in zip(told, choir):
            self.assertIs(type(told_bell[2]), type(bell[2]))

    def test_read_again(self):
        self.assert_read(list(THREE_ROWS), THREE)

    def test_many_choirs_read_again(self):
        for seed in range(150):
            choir = some_choir(seed)
            with self.subTest(seed=seed):
                self.assert_read(show_choir(choir), rules_as_written(choir))
                self.assertEqual(show_choir(read_choir(show_choir(choir))), show_choir(choir))

    def test_numbers_at_the_bounds(self):
        self.assert_read(["a 0 all a+1"], (("a", 0, "all", ((0, 1, 1),)),))
        self.assert_read(["a 1000 all a+1000="], (("a", 1000, "all", ((0, 1000, 0),)),))

    def test_one_and_six_rows(self):
        rows = [name + " 3 all a+2 f+9=" for name in "abcdef"]
        choir = tuple((name, 3, "all", ((0, 2, 1), (5, 9, 0))) for name in "abcdef")
        self.assert_read(rows, choir)
        self.assert_read(["quintbel 7 any quintbel+2"], (("quintbel", 7, "any", ((0, 2, 1),)),))

    def test_rules_written_otherwise_are_read_as_they_stand(self):
        self.assert_read(["a 5 2 a+2 a+2"], of_rule(2, 2))
        self.assert_read(["a 5 1 a+2 a+2"], of_rule(1, 2))
        self.assert_read(["a 5 1 a+2"], of_rule(1, 1))
        self.assert_read(["a 5 any a+2"], of_rule("any", 1))
        self.assert_read(["a 5 6 a+2 a+2 a+2 a+2 a+2 a+2"], of_rule(6, 6))
        self.assert_read(["a 5 all a+2 a+2"], of_rule("all", 2))

    def test_names_begun_alike_are_kept_apart(self):
        rows = ["a 0 all aa+1", "aa 0 all aaa+1", "aaa 0 all a+1"]
        choir = (("a", 0, "all", ((1, 1, 1),)), ("aa", 0, "all", ((2, 1, 1),)), ("aaa", 0, "all", ((0, 1, 1),)))
        self.assert_read(rows, choir)


class Refusing(unittest.TestCase):
    def assert_refused(self, rows, row):
        with self.assertRaises(NoText) as taken:
            read_choir(rows)
        self.assertIs(type(taken.exception), NoText)
        self.assertIsInstance(taken.exception, BellError)
        self.assertEqual(taken.exception.row, row)
        self.assertIs(type(taken.exception.row), type(row))

    def assert_no_row(self, row):
        """Refused by itself, and at each place among three."""
        self.assert_refused([row], 0)
        good = ["a 0 all a+1", "b 0 all b+1", "c 0 all c+1"]
        for number in range(3):
            self.assert_refused(good[:number] + [row] + good[number:], number)

    def test_no_list_of_texts(self):
        row = "a 0 all a+1"
        things = [None, True, 0, "", row, (), (row,), {}, {row: row}, set(), b"a", object(), [], [None], [row, None],
                  [None, row], [row, 1], [row, True], [row, b"b 0 all b+1"], [row, [row]], [["a"]], [0]]
        for place, thing in enumerate(things):
            with self.subTest(place=place):
                self.assert_refused(thing, None)

    def test_no_list_of_texts_ahead_of_a_wrong_row(self):
        self.assert_refused(["", None], None)
        self.assert_refused([""] * 7, None)

    def test_more_than_six_rows(self):
        for many in (7, 8, 12):
            self.assert_refused([name + " 0 all a+1" for name in "abcdefghijkl"[:many]], None)

    def test_a_row_without_signs(self):
        self.assert_no_row("")
        self.assert_refused([""], 0)

    def test_blanks(self):
        rows = ["x  0 all x+1", "x 0  all x+1", "x 0 all  x+1", "x 0 all x+1  x+1", " x 0 all x+1", "x 0 all x+1 ",
                " ", "  ", "x 0 all x +1", "x 0 all x+ 1", "x 0 all x+1 =", "x\t0 all x+1", "x 0 all\tx+1",
                "x 0 all x+1\n", "\nx 0 all x+1", "x 0\n all x+1"]
        for row in rows:
            with self.subTest(row=row):
                self.assert_no_row(row)

    def test_words_left_out_or_put_in(self):
        rows = ["x", "x 0", "x 0 all", "x all x+1", "0 all x+1", "x 0 x+1", "x 0 0 all x+1", "x 0 all all x+1",
                "x 0 all 0 x+1", "x 0 all x+1 0", "x 0 all x+1 all", "x 0 all x+1 x"]
        for row in rows:
            with self.subTest(row=row):
                self.assert_no_row(row)

    def test_numbers_not_so_written(self):
        for figures in ("00", "01", "007", "+1", "-1", "-0", "1.0", "1e2", "1_0", "0x1", "", "one", "1000000000",
                        "0000000001", "\u0661", "\u00b2", "1;", "1="):
            with self.subTest(figures=figures):
                self.assert_no_row("x " + figures + " all x+1")
                self.assert_no_row("x 0 " + figures + " x+1")
                if figures != "1=":
                    self.assert_no_row("x 0 all x+" + figures)

    def test_numbers_beyond_the_bounds(self):
        for row in ("x 1001 all x+1", "x 999999999 all x+1", "x 0 all x+0", "x 0 all x+1001", "x 0 all x+999999999",
                    "x 0 all x+0=", "x 0 all x+1001=", "x 0 0 x+1", "x 0 2 x+1", "x 0 3 x+1 x+1", "x 0 999999999 x+1"):
            with self.subTest(row=row):
                self.assert_no_row(row)

    def test_rules_that_are_none(self):
        for rule in ("All", "ANY", "some", "none", "bell", "x", "x+1", "all,", "al", "allany"):
            with self.subTest(rule=rule):
                self.assert_no_row("x 0 " + rule + " x+1")

    def test_a_number_for_a_rule_at_its_bounds(self):
        for many in range(1, 7):
            self.assertEqual(read_choir(["x 0 " + str(many) + " x+1" * many])[0][2], many)
            self.assert_no_row("x 0 " + str(many + 1) + " x+1" * many)
            self.assert_no_row("x 0 0" + " x+1" * many)

    def test_signs_of_a_listening(self):
        for listening in ("x", "x+", "+1", "+", "=", "x=", "x1", "x-1", "x1+", "x++1", "x+1+", "x+1+1", "x+1==",
                          "x+=1", "x=+1", "x+=", "=x+1", "x+1=1", "x*1", "X+1", "x+1;", "x+1,"):
            with self.subTest(listening=listening):
                self.assert_no_row("x 0 all " + listening)
                self.assert_no_row("x 0 all x+1 " + listening)

    def test_names_that_are_none(self):
        for name in ("", "X", "Tenor", "tEnor", "x1", "1", "all", "any", "bell", "none", "ninelette", "x_y", "x+1",
                     "x;", "\u00e9"):
            with self.subTest(name=name):
                self.assert_no_row(name + " 0 all a+1")
                self.assert_refused(["a 0 all a+1", name + " 0 all a+1"], 1)

    def test_a_name_that_stands_ahead(self):
        self.assert_refused(["a 0 all a+1", "a 0 all a+1"], 1)
        self.assert_refused(["a 0 all a+1", "b 0 all a+1", "a 5 any b+1"], 2)
        self.assert_refused(["b 0 all a+1", "a 0 all a+1", "a 5 any b+1"], 2)

    def test_a_listening_that_names_no_bell(self):
        for name in ("b", "aa", "c", "all", "any", "bell", "none"):
            with self.subTest(name=name):
                self.assert_refused(["a 0 all " + name + "+1"], 0)
                self.assert_refused(["a 0 all a+1", "x 0 all a+1 " + name + "+1"], 1)

    def test_first_words_that_are_no_names_are_no_bells(self):
        for word in ("all", "bell", "B", "x1", "ninelette", ""):
            with self.subTest(word=word):
                self.assert_refused(["a 0 all " + word + "+1", word + " 0 all a+1"], 0)
                self.assert_refused(["a 0 all a+1", word + " 0 all a+1"], 1)

    def test_the_first_word_of_a_wrong_row_is_a_bell(self):
        self.assert_refused(["a 0 all b+1", "b"], 1)
        self.assert_refused(["a 0 all b+1", "b 0"], 1)
        self.assert_refused(["a 0 all b+1", "b  0 all a+1"], 1)
        self.assert_refused(["a 0 all b+1", "b 2000 all a+1"], 1)
        self.assert_refused(["a 0 all b+1", " b 0 all a+1"], 0)

    def test_no_listening_and_seven(self):
        self.assert_no_row("x 0 all")
        self.assert_no_row("x 0 all ")
        self.assertEqual(len(read_choir(["x 0 all" + " x+1" * 6])[0][3]), 6)
        for many in (7, 8, 9):
            self.assert_no_row("x 0 all" + " x+1" * many)
            self.assert_no_row("x 0 any" + " x+1" * many)

    def test_of_two_wrong_rows_the_first(self):
        wrong = ["", "b 0 all", "c 0 all a+0", "d 0 7 a+1", "e 0 all x+1"]
        for first in range(4):
            for second in range(first + 1, 5):
                rows = [name + " 0 all a+1" for name in "abcde"]
                rows[first] = wrong[first]
                rows[second] = wrong[second]
                self.assert_refused(rows, first)

    def test_a_bell_that_is_missing_is_told_ahead_of_a_later_row(self):
        self.assert_refused(["b 0 all a+1", ""], 0)
        self.assert_refused(["b 0 all b+1", "", "b 0 all a+1"], 1)

    def test_what_is_refused_is_not_changed(self):
        rows = ["a 0 all a+1", "a 0 all a+1"]
        self.assert_refused(rows, 1)
        self.assertEqual(rows, ["a 0 all a+1", "a 0 all a+1"])


if __name__ == "__main__":
    unittest.main()
