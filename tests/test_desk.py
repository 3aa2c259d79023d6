import unittest

from earbells.desk import Desk
from earbells.errors import (
    BellError, Mixed, NoChoir, NoListening, NoName, NoRound, NoRow, NoStand, NoText, Waiting,
)

PAIR = "a 0 all b+2 a+5; b 1 all a+3="
OTHER = "x 4 any y+2 x+6; y 9 all x+1="
STUCK = "z 0 all m+1=; m 0 all z+1=; c 3 all c+4"
MIXED = "a 0 all a+2 b+3; b 0 any a+2 b+3"
APART = "a 0 all a+2; b 0 all b+3"


def desk_with(**choirs):
    desk = Desk()
    for word, rows in choirs.items():
        assert desk.say("choir " + word + " " + rows) == "ok"
    return desk


def full_desk():
    return desk_with(pair=PAIR, other=OTHER, stuck=STUCK, mixed=MIXED, apart=APART)


class DeskCase(unittest.TestCase):
    def assert_says(self, desk, row, answer):
        told = desk.say(row)
        self.assertIs(type(told), str)
        self.assertEqual(told, answer)

    def assert_refused(self, kind, desk, said, **fields):
        with self.assertRaises(kind) as taken:
            desk.say(said)
        self.assertIs(type(taken.exception), kind)
        self.assertIsInstance(taken.exception, BellError)
        for field, value in fields.items():
            self.assertEqual(getattr(taken.exception, field), value)
            self.assertIs(type(getattr(taken.exception, field)), type(value))


class Rows(DeskCase):
    def test_choir_and_show(self):
        desk = Desk()
        self.assert_says(desk, "choir pair " + PAIR, "ok")
        self.assert_says(desk, "show pair", PAIR)
        self.assert_says(desk, "choir alone a 7 all a+1000", "ok")
        self.assert_says(desk, "show alone", "a 7 all a+1000")

    def test_show_writes_rules_as_told(self):
        desk = desk_with(w="a 0 2 a+1 a+2; b 0 1 a+1 a+2; c 0 any c+1; d 0 2 a+1 b+2 c+3=")
        self.assert_says(desk, "show w", "a 0 all a+1 a+2; b 0 any a+1 a+2; c 0 all c+1; d 0 2 a+1 b+2 c+3=")

    def test_six_rows(self):
        rows = "; ".join(name + " 0 all a+1 f+9=" for name in "abcdef")
        self.assert_says(desk_with(six=rows), "show six", rows)

    def test_words_of_one_and_of_eight_letters_and_those_that_no_bell_has(self):
        for word in ("a", "z", "eightlet", "all", "any", "bell", "none", "choir", "show", "drop"):
            desk = desk_with(**{word: PAIR})
            self.assert_says(desk, "show " + word, PAIR)
            self.assert_says(desk, "stroke " + word + " b 1", "8")
            self.assert_says(desk, "drop " + word, "ok")

    def test_a_choir_in_the_place_of_one_that_stood(self):
        desk = desk_with(w=PAIR)
        self.assert_says(desk, "choir w " + OTHER, "ok")
        self.assert_says(desk, "show w", OTHER)

    def test_drop(self):
        desk = desk_with(w=PAIR, v=OTHER)
        self.assert_says(desk, "drop w", "ok")
        self.assert_refused(NoStand, desk, "show w")
        self.assert_refused(NoStand, desk, "drop w")
        self.assert_says(desk, "show v", OTHER)
        self.assert_says(desk, "choir w " + OTHER, "ok")
        self.assert_says(desk, "show w", OTHER)

    def test_stroke(self):
        desk = full_desk()
        self.assertEqual([desk.say("stroke pair a " + str(n)) for n in range(4)], ["0", "5", "10", "15"])
        self.assertEqual([desk.say("stroke pair b " + str(n)) for n in range(4)], ["1", "8", "13", "18"])
        self.assert_says(desk, "stroke pair a 2000", "10000")
        self.assert_says(desk, "stroke stuck z 0", "0")
        self.assert_says(desk, "stroke stuck z 1", "never")
        self.assert_says(desk, "stroke stuck m 2000", "never")
        self.assert_says(desk, "stroke stuck c 10", "43")

    def test_waits(self):
        desk = full_desk()
        self.assert_says(desk, "waits pair", "none")
        self.assert_says(desk, "waits stuck", "z m")
        self.assert_says(desk_with(w="q 0 all q+1="), "waits w", "q")

    def test_pace(self):
        desk = full_desk()
        self.assert_says(desk, "pace pair a", "5/1")
        self.assert_says(desk, "pace pair b", "5/1")
        self.assert_says(desk, "pace other x", "3/1")
        self.assert_says(desk, "pace apart a", "2/1")
        self.assert_says(desk, "pace apart b", "3/1")
        self.assert_says(desk_with(w="a 0 all b+3; b 0 all a+4"), "pace w b", "7/2")

    def test_ring(self):
        desk = full_desk()
        self.assert_says(desk, "ring pair a", "a")
        self.assert_says(desk, "ring pair b", "a")
        self.assert_says(desk, "ring apart b", "b")
        told = desk_with(w="a 0 all b+3; b 0 all c+4; c 0 all a+1; d 0 all a+1=").say("ring w d")
        self.assertIn(told, ("a b c", "b c a", "c a b"))

    def test_round(self):
        desk = full_desk()
        self.assert_says(desk, "round pair 500", "1 1 5")
        self.assert_says(desk, "round pair 2", "1 1 5")
        self.assert_says(desk, "round pair 1", "none")
        self.assert_says(desk, "round apart 500", "none")
        self.assert_says(desk_with(w="a 0 all b+1; b 50 all a+1"), "round w 2", "0 2 2")

    def test_alike(self):
        desk = desk_with(one=PAIR, same="b 1 any a+3=; a 0 all a+5", late="a 0 all b+2 a+5; b 1 all a+4=")
        self.assert_says(desk, "alike one one 500 a b", "alike")
        self.assert_says(desk, "alike one same 500 b a", "alike")
        self.assert_says(desk, "alike one same 2 a", "alike")
        self.assert_says(desk, "alike one late 500 a b", "1 b 8 9")
        self.assert_says(desk, "alike late one 500 b", "1 b 9 8")
        self.assert_says(desk, "alike one late 1 a b a b", "1 b 8 9")
        desk = desk_with(three="a 0 all b+9; b 0 all c+9; c 7 all a+9",
                         four="a 0 all b+9; b 0 all c+9; c 7 all d+9; d 0 all a+9")
        self.assert_says(desk, "alike three four 4 a", "5 a 52 45")

    def test_slow(self):
        desk = desk_with(w=PAIR, v=PAIR)
        self.assert_says(desk, "slow w b 0 4", "ok")
        self.assert_says(desk, "show w", "a 0 all b+2 a+5; b 1 all a+7=")
        self.assert_says(desk, "slow w a 1 0", "ok")
        self.assert_says(desk, "slow w a 1 995", "ok")
        self.assert_says(desk, "show w", "a 0 all b+2 a+1000; b 1 all a+7=")
        self.assert_says(desk, "stroke w a 1", "1000")
        self.assert_says(desk, "show v", PAIR)

    def test_join(self):
        desk = desk_with(one=PAIR, two=OTHER)
        self.assert_says(desk, "join both one two", "ok")
        self.assert_says(desk, "show both", PAIR + "; " + OTHER)
        self.assert_says(desk, "show one", PAIR)
        self.assert_says(desk, "show two", OTHER)
        self.assert_says(desk, "join turned two one", "ok")
        self.assert_says(desk, "show turned", OTHER + "; " + PAIR)

    def test_join_in_the_place_of_one_of_the_two(self):
        desk = desk_with(one=PAIR, two=OTHER)
        self.assert_says(desk, "join one one two", "ok")
        self.assert_says(desk, "show one", PAIR + "; " + OTHER)
        desk = desk_with(one=PAIR, two=OTHER)
        self.assert_says(desk, "join two one two", "ok")
        self.assert_says(desk, "show two", PAIR + "; " + OTHER)

    def test_a_joined_choir_keeps_its_numbers_as_they_were_told(self):
        desk = desk_with(one="a 0 1 a+4", two="b 0 2 b+1 b+2 b+3")
        self.assert_says(desk, "join w one two", "ok")
        self.assert_says(desk, "show w", "a 0 all a+4; b 0 2 b+1 b+2 b+3")

    def test_what_was_told_ahead_stays_when_a_choir_is_changed(self):
        desk = desk_with(one=PAIR, two=OTHER)
        desk.say("join both one two")
        desk.say("slow one a 0 9")
        desk.say("drop two")
        self.assert_says(desk, "show both", PAIR + "; " + OTHER)

    def test_two_desks_apart(self):
        first, second = desk_with(w=PAIR), Desk()
        self.assert_refused(NoStand, second, "show w")
        self.assert_says(second, "choir w " + OTHER, "ok")
        self.assert_says(first, "show w", PAIR)
        self.assert_says(first, "drop w", "ok")
        self.assert_says(second, "show w", OTHER)


class NoSuchRow(DeskCase):
    def test_things_that_are_no_texts(self):
        for place, thing in enumerate([None, True, 0, 5, 1.5, b"waits pair", [], ["waits pair"], (), {}, object()]):
            with self.subTest(place=place):
                self.assert_refused(NoRow, full_desk(), thing)

    def test_first_words_that_are_none(self):
        for row in ("", " ", "  ", "x", "pair", "Waits pair", "WAITS pair", "wait pair", "strokes pair a 1", "waits\tpair",
                    "choirs pair " + PAIR, "Choir pair " + PAIR, "choir\tpair " + PAIR, "1", "show, pair", " show pair"):
            with self.subTest(row=row):
                self.assert_refused(NoRow, full_desk(), row)

    def test_too_few_or_too_many_words(self):
        for row in ("choir", "choir pair", "drop", "drop pair pair", "show", "show pair other", "stroke", "stroke pair",
                    "stroke pair a", "stroke pair a 1 2", "waits", "waits pair a", "pace", "pace pair", "pace pair a b",
                    "ring", "ring pair", "ring pair a b", "round", "round pair", "round pair 1 2", "alike", "alike pair",
                    "alike pair pair", "alike pair pair 5", "slow", "slow pair", "slow pair a", "slow pair a 0",
                    "slow pair a 0 1 2", "join", "join w", "join w pair", "join w pair other other"):
            with self.subTest(row=row):
                self.assert_refused(NoRow, full_desk(), row)

    def test_blanks(self):
        for row in ("show  pair", "show pair ", " show pair", "show ", "waits pair ", "drop pair ", "stroke pair  a 1",
                    "stroke pair a 1 ", "stroke pair a  1", "stroke  pair a 1", "stroke pair a ", "stroke pair  1",
                    "pace pair ", "ring pair ", "round pair ", "round  5", "alike pair pair 5 ", "alike pair pair 5 a ",
                    "alike pair pair 5 a  b", "alike  pair 5 a", "alike pair  5 a", "slow pair a 0 ", "slow pair  0 1",
                    "join  pair other", "join w  other", "join w pair ", "choir  " + PAIR, "choir  pair " + PAIR,
                    "choir ", "choir  "):
            with self.subTest(row=row):
                self.assert_refused(NoRow, full_desk(), row)

    def test_words_for_a_choir_that_are_none(self):
        for word in ("ninelette", "Pair", "PAIR", "pair1", "1", "0", "pa_ir", "pair;", "pair\n", "\tpair", "\u00e9", "-"):
            for row in ("choir {} " + PAIR, "choir {} ", "drop {}", "show {}", "stroke {} a 1", "waits {}", "pace {} a",
                        "ring {} a", "round {} 5", "alike {} pair 5 a", "alike pair {} 5 a", "slow {} a 0 1",
                        "join {} pair other", "join w {} other", "join w pair {}"):
                with self.subTest(row=row, word=word):
                    self.assert_refused(NoRow, full_desk(), row.format(word))

    def test_names_that_are_none(self):
        for name in ("ninelette", "A", "a1", "1", "a+", "a;", "a\n", "\u00e9"):
            for row in ("stroke pair {} 1", "pace pair {}", "ring pair {}", "alike pair pair 5 {}",
                        "alike pair pair 5 a {}", "alike pair pair 5 {} a", "slow pair {} 0 1"):
                with self.subTest(row=row, name=name):
                    self.assert_refused(NoRow, full_desk(), row.format(name))

    def test_numbers_that_are_none(self):
        for number in ("00", "01", "0001", "10000", "99999", "-1", "+1", "1.0", "one", "a", "1\n", "\u0661", "\u00b2", "1_0"):
            for row in ("stroke pair a {}", "round pair {}", "alike pair pair {} a", "slow pair a {} 1", "slow pair a 0 {}"):
                with self.subTest(row=row, number=number):
                    self.assert_refused(NoRow, full_desk(), row.format(number))

    def test_numbers_beyond_the_bounds(self):
        for number in ("2001", "2002", "9999"):
            self.assert_refused(NoRow, full_desk(), "stroke pair a " + number)
            self.assert_refused(NoRow, full_desk(), "stroke stuck z " + number)
        for number in ("0", "501", "502", "9999"):
            self.assert_refused(NoRow, full_desk(), "round pair " + number)
            self.assert_refused(NoRow, full_desk(), "alike pair pair " + number + " a")

    def test_numbers_at_the_bounds(self):
        desk = full_desk()
        self.assert_says(desk, "stroke pair a 0", "0")
        self.assert_says(desk, "stroke pair a 2000", "10000")
        self.assert_says(desk, "round pair 500", "1 1 5")
        self.assert_says(desk, "alike pair pair 500 a", "alike")
        self.assert_refused(NoRound, desk, "alike pair pair 1 a", most=1)


class Refusing(DeskCase):
    def test_no_stand(self):
        for row in ("drop w", "show w", "stroke w a 1", "waits w", "pace w a", "ring w a", "round w 5", "alike w pair 5 a",
                    "alike pair w 5 a", "slow w a 0 1", "join v w pair", "join v pair w", "join w w pair"):
            with self.subTest(row=row):
                self.assert_refused(NoStand, full_desk(), row)
                self.assert_refused(NoStand, Desk(), row)

    def test_the_first_word_of_a_join_need_not_stand(self):
        self.assert_says(full_desk(), "join w pair other", "ok")

    def test_no_name(self):
        for row in ("stroke pair c 1", "pace pair c", "ring pair c", "slow pair c 0 1", "alike pair pair 5 c",
                    "alike pair pair 5 a c", "alike pair stuck 5 c", "alike stuck pair 5 c"):
            with self.subTest(row=row):
                self.assert_refused(NoName, full_desk(), row, name="c")
        self.assert_refused(NoName, full_desk(), "alike pair pair 5 a d c", name="d")
        self.assert_refused(NoName, full_desk(), "alike pair pair 5 c d", name="c")
        self.assert_refused(NoName, full_desk(), "stroke pair all 1", name="all")
        self.assert_refused(NoName, full_desk(), "stroke pair eightlet 1", name="eightlet")

    def test_no_text(self):
        for rows, row in (("", 0), (" ", 0), ("; ", 0), (PAIR + "; ", 2), (PAIR + ";", 1), (PAIR.replace("; ", ";"), 0),
                          ("a 0 all a+1; ; b 0 all a+1", 1), ("a 0 all a+1;  b 0 all a+1", 1), ("a 0 all a+1 ; b 0 all a+1", 0),
                          (" " + PAIR, 0), (PAIR + " ", 1), ("a 0 all b+1", 0), ("a 0 all a+1; a 0 all a+1", 1),
                          ("a 00 all a+1", 0), ("a 1001 all a+1", 0), ("A 0 all A+1", 0),
                          ("; ".join(name + " 0 all a+1" for name in "abcdefg"), None)):
            with self.subTest(rows=rows):
                self.assert_refused(NoText, Desk(), "choir w " + rows, row=row)
                self.assert_refused(NoText, desk_with(w=PAIR), "choir w " + rows, row=row)

    def test_what_the_stages_refuse(self):
        desk = full_desk()
        for row in ("pace stuck c", "pace stuck z", "ring stuck c", "round stuck 5", "alike stuck stuck 5 c"):
            with self.subTest(row=row):
                self.assert_refused(Waiting, desk, row, names=["z", "m"])
        self.assert_refused(Mixed, desk, "pace mixed a")
        self.assert_refused(Mixed, desk, "ring mixed b")
        self.assert_refused(NoRound, desk, "alike apart apart 500 a", most=500)
        self.assert_refused(NoName, desk, "join w pair mixed", name="a")
        self.assert_refused(NoName, desk, "join w pair pair", name="a")
        desk.say("join seven stuck pair")
        desk.say("choir two x 0 all x+1; y 0 all y+1")
        self.assert_refused(NoChoir, desk, "join w seven two", bell=None)

    def test_no_listening(self):
        for row in ("slow pair a 2 1", "slow pair b 1 0", "slow pair a 9999 1", "slow pair a 0 999", "slow pair b 0 998",
                    "slow pair a 0 9999", "slow pair a 9999 9999", "slow stuck z 1 1"):
            with self.subTest(row=row):
                self.assert_refused(NoListening, full_desk(), row)
        self.assert_says(full_desk(), "slow pair b 0 997", "ok")
        self.assert_says(full_desk(), "slow stuck z 0 1", "ok")


class OfTwoTheFirst(DeskCase):
    def test_no_row_ahead_of_all(self):
        for row in ("stroke w c 00", "stroke w C 1", "stroke w c 1 1", "alike w v 00 c", "alike w v 5 C", "round w x",
                    "slow w c 00 1", "slow w c 1 x", "show w v", "join w v U", "choir W ", "choir w1 a 0 all"):
            with self.subTest(row=row):
                self.assert_refused(NoRow, full_desk(), row)

    def test_no_stand_ahead_of_no_name_and_of_bounds(self):
        for row in ("stroke w c 2001", "pace w c", "alike w pair 0 c", "alike pair w 501 c", "round w 0", "round w 501",
                    "slow w c 9 9999", "join v pair w", "alike stuck w 5 c"):
            with self.subTest(row=row):
                self.assert_refused(NoStand, full_desk(), row)

    def test_no_name_ahead_of_bounds_and_of_what_the_stages_refuse(self):
        self.assert_refused(NoName, full_desk(), "stroke pair c 2001", name="c")
        self.assert_refused(NoName, full_desk(), "alike pair pair 0 c", name="c")
        self.assert_refused(NoName, full_desk(), "alike pair pair 501 a c", name="c")
        self.assert_refused(NoName, full_desk(), "slow pair c 9 9999", name="c")
        self.assert_refused(NoName, full_desk(), "pace stuck a", name="a")
        self.assert_refused(NoName, full_desk(), "ring mixed c", name="c")
        self.assert_refused(NoName, full_desk(), "alike stuck stuck 5 a", name="a")

    def test_bounds_ahead_of_what_the_stages_refuse(self):
        self.assert_refused(NoRow, full_desk(), "round stuck 0")
        self.assert_refused(NoRow, full_desk(), "round stuck 501")
        self.assert_refused(NoRow, full_desk(), "alike stuck stuck 0 c")
        self.assert_refused(NoRow, full_desk(), "alike stuck stuck 501 c")

    def test_waiting_ahead_of_mixed_and_of_no_round(self):
        desk = desk_with(w="q 0 all q+1=; a 0 all a+2 b+3; b 0 any a+2 b+3", apart=APART)
        self.assert_refused(Waiting, desk, "pace w a", names=["q"])
        self.assert_refused(Waiting, desk, "alike apart w 5 a", names=["q"])


class NothingChanges(DeskCase):
    def test_what_is_refused_changes_nothing(self):
        desk = desk_with(pair=PAIR, stuck=STUCK)
        refused = [
            None, "", "choir pair", "choir pair ", "choir pair a 0 all", "choir Pair " + OTHER, "choir new ", "drop other",
            "drop pair ", "stroke pair c 1", "stroke pair a 2001", "pace stuck c", "round pair 0", "alike pair pair 5 c",
            "slow pair a 0 999", "slow pair c 0 1", "slow pair a 2 1", "join pair pair pair", "join new pair pair",
            "join pair other stuck", "join pair stuck other",
        ]
        for row in refused:
            with self.subTest(row=row):
                with self.assertRaises(BellError):
                    desk.say(row)
                self.assert_says(desk, "show pair", PAIR)
                self.assert_says(desk, "show stuck", STUCK)
                self.assert_refused(NoStand, desk, "show new")
                self.assert_refused(NoStand, desk, "show other")

    def test_asking_changes_nothing(self):
        desk = desk_with(pair=PAIR)
        for row in ("show pair", "stroke pair a 5", "waits pair", "pace pair a", "ring pair b", "round pair 9",
                    "alike pair pair 9 a"):
            first = desk.say(row)
            self.assertEqual(desk.say(row), first)
            self.assert_says(desk, "show pair", PAIR)


if __name__ == "__main__":
    unittest.main()
