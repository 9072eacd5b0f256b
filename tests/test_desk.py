"""[21]: the desk and its rows."""

import random
import time
import unittest

from floormeet.building import counter, sorter
from floormeet.desk import Desk
from floormeet.ends import end_of
from floormeet.errors import (
    Full, MeetError, NoCompany, NoFloor, NoMeeting, NoName, NoNumber, NoRow, NoState, NotFair, NoText, Nothing, Taken,
)
from floormeet.fair import floor_kinds, paper
from floormeet.party import Party
from floormeet.standings import standing_of
from floormeet.states import least_company
from floormeet.texts import show_house
from tests.makers import (
    HUGE, SORTER, all_states, fair_houses, leaning_houses, made_house, other_kinds, state_of, unfair_houses,
)
from tests.test_party import names

ONE = "house stay 0;up 0"
SORT = "house stay 0 1 1 1;up 0 0 0 1;stay 0 1 1 1;up 0 0 0 1"
UNFAIR = "house stay 1 1 1 0;up 0 0 0 0"
ASKING = ("rest", "fair", "kinds")


def house_row(house):
    return "house " + show_house(house)[:-1].replace("\n", ";")


def desk_of(house, *rows):
    desk = Desk()
    for row in (house_row(house),) + rows:
        desk.say(row)
    return desk


def told_by(desk):
    """All that a desk tells of its house and its party, refusals too."""
    told = []
    for row in ASKING + tuple(f"where {name}" for name in ("ann", "bob", "cat")):
        try:
            told.append(desk.say(row))
        except MeetError as refusal:
            told.append(type(refusal))
    return told


class Desks(unittest.TestCase):
    def refused(self, desk, refusal, row):
        kept = told_by(desk)
        with self.assertRaises(refusal, msg=row) as caught:
            desk.say(row)
        self.assertEqual(told_by(desk), kept)
        return caught.exception


class Rows(Desks):
    def test_written_out(self):
        desk = Desk()
        for row, answer in (
            (SORT, "ok"), ("fair", "fair"), ("kinds", "stands stands"), ("rest", "- -"), ("settle", ""),
            ("back", "ok"), ("come cat 1 0", "ok"), ("come bob 0 1", "ok"), ("come ann 0 0", "ok"),
            ("rest", "ann bob"), ("where cat", "0 1"), ("meet cat ann", "1 0"), ("where cat", "1 0"),
            ("where ann", "0 1"), ("settle", "bob cat"), ("where cat", "out 0"), ("settle", ""), ("back", "ok"),
            ("back", "ok"), ("back", "ok"), ("where cat", "0 1"), ("settle", "ann cat;bob cat"),
            ("rest", "ann bob"), ("back", "ok"), ("back", "ok"), ("rest", "cat bob"),
            ("end 0 0", "- -"), ("end 1 0", "0 -"), ("end 1 1", "1 0"), ("end 1000000000000000000 2", "1 1"),
            ("least - -", "0 0"), ("least 1 0", "1 1"), ("least 0 1", "never"), ("least - 1", "never"),
            ("least 1 -", "0 1"), (ONE, "ok"), ("rest", "-"), ("end 7", "0"), ("least 0", "1"), ("least -", "0"),
            (UNFAIR, "ok"), ("fair", "0 0 0 1"), ("kinds", "falls"), ("come ann 1 0", "ok"), ("where ann", "0 1"),
        ):
            self.assertEqual(desk.say(row), answer, row)

    def test_rows_of_a_party_by_chance(self):
        chance = random.Random(16)
        for m, floors in ((1, 1), (2, 3), (3, 2), (6, 4)):
            house = made_house(m, floors)
            desk, party = desk_of(house), Party(house)
            here = []
            for name in chance.sample(names(300), 60):
                number, floor = chance.randrange(m), chance.randrange(floors)
                self.assertEqual(desk.say(f"come {name} {number} {floor}"), "ok")
                party.come(name, number, floor=floor)
                here.append(name)
                one, other = chance.choice(here), chance.choice(here)
                try:
                    due = "{} {}".format(*party.meet(one, other))
                except NoMeeting:
                    self.assertIs(type(self.refused(desk, NoMeeting, f"meet {one} {other}").at), str)
                else:
                    self.assertEqual(desk.say(f"meet {one} {other}"), due)
                if not chance.randrange(9):
                    self.assertEqual(desk.say("settle"), ";".join(f"{a} {b}" for a, b in party.settle()))
                if not chance.randrange(4):
                    self.assertEqual(desk.say("back"), "ok")
                    party.back()
                    here = [name for name in here if name in {row[1] for row in party.log()}]
                self.assertEqual(desk.say("rest"), " ".join(name or "-" for name in party.rest_names()))
                for name in here:
                    floor, number = party.where(name)
                    due = f"out {number}" if floor == floors else f"{floor} {number}"
                    self.assertEqual(desk.say(f"where {name}"), due)

    def test_fair_and_kinds(self):
        for house in fair_houses()[::7] + unfair_houses() + leaning_houses()[::5]:
            desk = desk_of(house)
            shown = paper(house)
            due = "fair" if shown is None else "{} {} {} {}".format(shown[0], *shown[1])
            self.assertEqual(desk.say("fair"), due)
            self.assertEqual(desk.say("kinds"), " ".join(floor_kinds(house)))

    def test_ends_and_least_companies(self):
        chance = random.Random(17)
        for house in fair_houses()[::7]:
            m, floors = len(house[0][0]), len(house)
            desk = desk_of(house)
            for _ in range(5):
                company = tuple(chance.choice((0, 1, 2, 60, HUGE)) for _ in range(m))
                state = state_of(end_of(house, standing_of(house, company)))
                due = " ".join("-" if number is None else str(number) for number in state)
                self.assertEqual(desk.say("end " + " ".join(map(str, company))), due)
                self.assertNotEqual(desk.say("least " + due), "never")
                state = chance.choice(all_states(house))
                row = "least " + " ".join("-" if number is None else str(number) for number in state)
                told = least_company(house, state)
                self.assertEqual(desk.say(row), "never" if told is None else " ".join(map(str, told)))

    def test_another_house_begins_anew(self):
        desk = desk_of(SORTER, "come ann 1 0", "come bob 0 0")
        for row in (SORT, ONE, UNFAIR, house_row(counter(6, 4))):
            desk.say("settle")
            self.assertEqual(desk.say(row), "ok")
            self.refused(desk, NoName, "where ann")
            self.refused(desk, Nothing, "back")
            desk.say("come ann 0 0")

    def test_two_desks_know_nothing_of_one_another(self):
        one, other = Desk(), Desk()
        one.say(SORT)
        self.refused(other, NoRow, "rest")
        other.say(SORT)
        one.say("come ann 1 0")
        self.assertEqual(other.say("rest"), "- -")
        self.refused(other, Nothing, "back")
        other.say("come ann 0 1")
        other.say(ONE)
        self.assertEqual(one.say("where ann"), "0 1")
        self.assertEqual(one.say("kinds"), "stands stands")
        self.refused(other, NoName, "where ann")


class NoRows(Desks):
    def test_ahead_of_any_house(self):
        desk = Desk()
        for row in ("come ann 0 0", "back", "meet ann bob", "settle", "where ann", "rest", "fair", "kinds", "end 1",
                    "least 0", "end", "least", "", " ", "house", "no row", "come"):
            with self.assertRaises(NoRow):
                desk.say(row)
        with self.assertRaises(NoText):
            desk.say("house ")
        with self.assertRaises(NoRow):
            desk.say("rest")
        self.assertEqual(desk.say(ONE), "ok")

    def test_no_text(self):
        for desk in (Desk(), desk_of(SORTER, "come ann 0 0")):
            for thing in other_kinds() + [("rest",), ["rest"], b"rest", {"rest"}]:
                if not isinstance(thing, str):
                    self.refused(desk, NoRow, thing)

    def test_words_parted_otherwise(self):
        desk = desk_of(SORTER, "come ann 1 0", "come bob 0 0")
        for row in ("come cat 0 0", "back", "meet ann bob", "settle", "where ann", "rest", "fair", "kinds", "end 1 1",
                    "least 1 1"):
            for wrong in (row + " ", " " + row, row + "\n", "\n" + row, row.replace(" ", "  "), row.replace(" ", "\n"),
                          row.replace(" ", " \n"), row.replace(" ", "\t"), row.upper(), row.title(), ";" + row,
                          row.replace(" ", ""), row.replace(" ", ","), row + " \n", row[:2] + "\n" + row[2:]):
                if wrong != row:
                    self.refused(desk, NoRow, wrong)

    def test_no_name_where_one_is_due(self):
        desk = desk_of(SORTER, "come ann 1 0")
        for row in ("where ", "meet ann ", "meet  ann", "meet  ", "come  0 0", "where  ", "rest ", "end ", "least "):
            self.refused(desk, NoRow, row)

    def test_words_more_or_fewer(self):
        desk = desk_of(SORTER, "come ann 1 0", "come bob 0 0")
        for row in ("", " ", "\n", "come", "come cat", "come cat 0", "come cat 0 0 0", "back 1", "back ann", "meet",
                    "meet ann", "meet ann bob cat", "settle ann", "settle 1", "where", "where ann bob", "rest ann",
                    "fair 1", "kinds 0", "house", "houses", "out", "ok", "stay 0", "- -", "standing", "log", "len",
                    "desk", "say rest"):
            self.refused(desk, NoRow, row)

    def test_numbers_by_their_figures(self):
        desk = desk_of(SORTER, "come ann 1 0")
        for word in ("00", "01", "+1", "-1", "-0", "1.0", "1e0", "0x1", "a", "-", "--", "one", "True", "None", "1_0",
                     "1,", "12345678901234567890", "9" * 20, "0" * 19, "0" * 20, "1" * 4000, "(1)", "'1'"):
            for row in ("come bob {} 0", "come bob 0 {}", "come Bob {} 0", "end {} 1", "end 1 {}", "end {}",
                        "least {} 1", "least 1 {}", "least {}", "end 1 1 {}", "least 1 1 {}"):
                if word != "-" or not row.startswith("least"):
                    self.refused(desk, NoRow, row.format(word))
        for word in ("2", "10", "9" * 19, "1000000000000000001", str(HUGE)):
            self.refused(desk, NoNumber, f"come bob {word} 0")
            self.refused(desk, NoFloor, f"come bob 0 {word}")
            self.refused(desk, NoState, f"least 0 {word}")
        for word in ("9" * 19, "1000000000000000001"):
            self.refused(desk, NoCompany, f"end 0 {word}")
        self.assertEqual(desk.say(f"end 0 {HUGE}"), "1 1")
        self.assertEqual(desk.say("end 0 0"), "- -")


class Refusals(Desks):
    def test_of_a_party(self):
        desk = desk_of(SORTER, "come ann 1 0", "come bob 0 1")
        for name in ("Cat", "c1", "-", "0", "anninabox", ";", "ann;", "{}", "~"):
            self.refused(desk, NoName, f"come {name} 0 0")
            self.refused(desk, NoName, f"come {name} 9 9")
            self.refused(desk, NoName, f"where {name}")
            self.assertEqual(self.refused(desk, NoMeeting, f"meet {name} ann").at, name)
            self.assertEqual(self.refused(desk, NoMeeting, f"meet ann {name}").at, "ann")
        self.refused(desk, Taken, "come ann 9 9")
        self.refused(desk, NoNumber, "come cat 2 9")
        self.refused(desk, NoFloor, "come cat 1 2")
        self.refused(desk, NoName, "where cat")
        for row in ("meet ann bob", "meet ann ann", "meet cat ann", "meet ann cat"):
            self.assertEqual(self.refused(desk, NoMeeting, row).at, row.split(" ")[1])
        for name in names(58):
            desk.say(f"come {name} 0 0")
        self.refused(desk, Full, "come sixtyone 0 0")
        desk.say("back")
        self.assertEqual(desk.say("come sixtyone 0 0"), "ok")
        for _ in range(60):
            desk.say("back")
        self.refused(desk, Nothing, "back")

    def test_not_fair_then_the_others(self):
        for house in unfair_houses():
            desk = desk_of(house)
            m, floors = len(house[0][0]), len(house)
            for row in ("end" + " 1" * m, "end", "end" + " 1" * (m + 1), "end " + "9" * 19, "least" + " 0" * floors,
                        "least", "least" + " -" * (floors + 1), "least " + "9" * 19):
                self.assertEqual(self.refused(desk, NotFair, row).paper, paper(house))
            for row in ("end x", "least x", "end -", "end 01", "least 01", "end ", "least "):
                self.refused(desk, NoRow, row)

    def test_too_many_or_few_words(self):
        for house in fair_houses()[::30]:
            desk = desk_of(house)
            m, floors = len(house[0][0]), len(house)
            for many in range(9):
                if many != m:
                    self.refused(desk, NoCompany, "end" + " 1" * many)
                if many != floors:
                    self.refused(desk, NoState, "least" + " 0" * many)
                    self.refused(desk, NoState, "least" + " -" * many)
            self.refused(desk, NoState, "least" + f" {m}" * floors)

    def test_texts_that_are_none(self):
        for desk in (Desk(), desk_of(SORTER, "come ann 1 0")):
            for text in ("", " ", ";", "stay 0", "stay 0;", "stay 0;up 0;", ";stay 0;up 0", "stay 0;;up 0", "stay 0; up 0",
                         "stay 0 ;up 0", " stay 0;up 0", "stay 0;up 0 ", "stay  0;up 0", "stay 0\nup 0", "stay 0;up 0\n",
                         "\nstay 0;up 0", "stay 0\n;up 0", "stay 0;up 0;\n", "stay 0;up\n0", "\n", "up 0;stay 0",
                         "stay 00;up 0", "stay 1;up 0", "stay 0,up 0", "stay 0:up 0", "Stay 0;up 0", "stay 0 1;up 0 0",
                         "house stay 0;up 0", ";".join(["stay 0;up 0"] * 5), show_house(SORTER), "x" * 4000):
                self.refused(desk, NoText, "house " + text)
            for row in ("house\nstay 0;up 0", "\nhouse stay 0;up 0", " house stay 0;up 0", "House stay 0;up 0", "house",
                        "house\n", "house;stay 0;up 0", "housestay 0;up 0", "house\tstay 0;up 0", "stay 0;up 0"):
                self.refused(desk, NoRow, row)
        self.assertEqual(desk.say("where ann"), "0 1")


class Soon(unittest.TestCase):
    def test_all_rows(self):
        for house in (sorter(6, 4), counter(6, 4)):
            desk = desk_of(house, *[f"come {name} 5 0" for name in names(60)])
            for row in ("rest", "settle", "where qw", "back", "fair", "kinds", "end" + f" {HUGE}" * 6, "least 5 5 5 5",
                        "least - - - 0", house_row(house)):
                start = time.perf_counter()
                desk.say(row)
                self.assertLess(time.perf_counter() - start, 0.5)


if __name__ == "__main__":
    unittest.main()
