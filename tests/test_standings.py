"""[5], [6], [7] and what [2] says of them: standings, meetings, companies."""

import copy
import itertools
import random
import sys
import unittest

from floormeet.errors import NoCompany, NoHouse, NoMeeting, NoStanding
from floormeet.standings import (
    behind, how_long, is_rest, is_standing, meetings, standing_of, together, who_rests,
)
from tests.makers import (
    HUGE, SIZES, SORTER, all_ends, every_meeting, made_house, made_standing, nobody, other_kinds, person_by_person,
)

NO_HOUSES = other_kinds() + [list(SORTER), SORTER[0], (SORTER,), SORTER + SORTER + SORTER]


def put(thing, at, new):
    return thing[:at] + (new,) + thing[at + 1:]


def with_count(standing, floor, number, new):
    return put(standing, floor, put(standing[floor], number, new))


def no_standings(house):
    """What is no standing of the house, however great its counts may be."""
    standing = made_standing(house, 5)
    m = len(house[0][0])
    yield from other_kinds()
    yield list(standing)
    yield standing[:-1]
    yield standing[1:]
    yield standing + (0,)
    yield standing[:-1] + standing[-1:] * 2
    yield (standing[0],) + standing
    yield (standing[:-1], standing[-1])
    yield (standing,)
    yield str(standing)
    for new in (-1, -HUGE, True, False, None, "0", (), (0,), [0], b"0"):
        yield put(standing, len(house), new)
        for floor in range(len(house)):
            for number in range(m):
                yield with_count(standing, floor, number, new)
    for floor in range(len(house)):
        row = standing[floor]
        for new in (list(row), row + (0,), row[:-1], (), None, 0, "0" * m, b"\x00" * m, dict(enumerate(row))):
            yield put(standing, floor, new)
    yield put(standing, len(house), (0,) * m)


def no_meetings(house, standing):
    """What can't be next in this standing, of any kind."""
    m, floors = len(house[0][0]), len(house)
    yield from other_kinds()
    near = set(every_meeting(standing))
    for thing in itertools.product(range(-2, floors + 3), range(-m - 1, m + 2), range(-m - 1, m + 2)):
        if thing not in near:
            yield thing
    for floor, a, b in sorted(near):
        yield [floor, a, b]
        yield (floor, a)
        yield (floor, a, b, 0)
        yield (floor, (a, b))
        yield f"{floor} {a} {b}"
        yield (str(floor), a, b)
        for at in range(3):
            for new in (True, False, None, "0", (0,), [0], HUGE, 10 ** 30, -HUGE, b"\x00", len):
                yield put((floor, a, b), at, new)


class IsStanding(unittest.TestCase):
    def test_standings(self):
        for m, floors in SIZES:
            house = made_house(m, floors)
            self.assertIs(is_standing(house, nobody(house)), True)
            for seed in range(5):
                self.assertIs(is_standing(house, made_standing(house, 7, seed)), True)
        self.assertIs(is_standing(SORTER, ((1, 2), (0, 3), 4)), True)

    def test_bounds_of_counts(self):
        for m, floors in SIZES:
            house = made_house(m, floors)
            standing = made_standing(house, 3)
            for new, told in ((0, True), (HUGE - 1, True), (HUGE, True), (HUGE + 1, False), (10 ** 30, False)):
                self.assertIs(is_standing(house, put(standing, floors, new)), told)
                for floor in range(floors):
                    for number in range(m):
                        self.assertIs(is_standing(house, with_count(standing, floor, number, new)), told)

    def test_what_is_none(self):
        for m, floors in SIZES:
            house = made_house(m, floors)
            for thing in no_standings(house):
                self.assertIs(is_standing(house, thing), False)

    def test_standings_of_other_houses(self):
        for (m, floors), (n, others) in itertools.product(SIZES, SIZES):
            thing = nobody(made_house(n, others))
            self.assertIs(is_standing(made_house(m, floors), thing), (m, floors) == (n, others))

    def test_no_house(self):
        for thing in NO_HOUSES:
            for other in (((1, 2), (0, 3), 4), None, thing):
                with self.assertRaises(NoHouse):
                    is_standing(thing, other)


class Refusals(unittest.TestCase):
    """NoHouse ahead of NoStanding ahead of the others, in all that takes a standing."""

    def calls(self):
        return [
            meetings, is_rest, how_long, who_rests,
            lambda house, thing: behind(house, thing, (0, 0, 0)),
            lambda house, thing: behind(house, thing, None),
            lambda house, thing: together(house, thing, thing),
            lambda house, thing: together(house, thing, nobody(SORTER)),
            lambda house, thing: together(house, thing, None),
        ]

    def test_no_house(self):
        for call in self.calls():
            for thing in NO_HOUSES:
                for standing in (nobody(SORTER), None, thing):
                    with self.assertRaises(NoHouse):
                        call(thing, standing)

    def test_no_house_ahead_of_what_is_no_company(self):
        for thing in NO_HOUSES:
            for company in ((1, 1), None, thing):
                with self.assertRaises(NoHouse):
                    standing_of(thing, company)

    def test_no_house_ahead_of_the_other_standing(self):
        for thing in NO_HOUSES:
            with self.assertRaises(NoHouse):
                together(thing, nobody(SORTER), None)

    def test_no_standing(self):
        for m, floors in SIZES:
            house = made_house(m, floors)
            for call in self.calls():
                for thing in no_standings(house):
                    with self.assertRaises(NoStanding):
                        call(house, thing)

    def test_no_standing_as_the_other_one(self):
        for m, floors in SIZES:
            house = made_house(m, floors)
            for thing in no_standings(house):
                with self.assertRaises(NoStanding):
                    together(house, nobody(house), thing)

    def test_counts_above_the_bound_are_let_in(self):
        for m, floors in SIZES:
            house = made_house(m, floors)
            for many in (HUGE + 1, 10 ** 30):
                standing = ((many,) * m,) * floors + (many,)
                self.assertIs(is_standing(house, standing), False)
                self.assertEqual(len(meetings(house, standing)), floors * m * (m + 1) // 2)
                self.assertIs(is_rest(house, standing), False)
                self.assertEqual(who_rests(house, standing), (True,) * floors)
                self.assertEqual(together(house, standing, nobody(house)), standing)
                self.assertEqual(together(house, nobody(house), standing), standing)
                new = behind(house, standing, (floors - 1, 0, 0))
                self.assertEqual(new[-1], many + 1)
                self.assertEqual(how_long(house, standing), how_long(house, new) + 1)
                self.assertIs(is_rest(house, put(nobody(house), floors, many)), True)


class Meetings(unittest.TestCase):
    def test_written_out(self):
        self.assertEqual(meetings(SORTER, ((1, 2), (0, 3), 4)), [(0, 0, 1), (0, 1, 1), (1, 1, 1)])
        self.assertEqual(meetings(SORTER, ((1, 0), (0, 1), 4)), [])
        self.assertEqual(meetings(SORTER, ((2, 0), (1, 1), 0)), [(0, 0, 0), (1, 0, 1)])

    def test_all_that_can_be_next_rising(self):
        for m, floors in SIZES:
            house = made_house(m, floors)
            for people in (0, 1, 2, 3, 5, 8, 20):
                for seed in range(4):
                    standing = made_standing(house, people, seed)
                    told = meetings(house, standing)
                    self.assertEqual(told, every_meeting(standing))
                    self.assertIs(type(told), list)
                    self.assertTrue(all(type(meeting) is tuple for meeting in told))

    def test_two_of_like_numbers_only_where_two_stand(self):
        for m, floors in SIZES:
            house = made_house(m, floors)
            for floor, number in itertools.product(range(floors), range(m)):
                for many, told in ((1, []), (2, [(floor, number, number)]), (HUGE + 1, [(floor, number, number)])):
                    self.assertEqual(meetings(house, with_count(nobody(house), floor, number, many)), told)

    def test_the_told_list_is_the_askers_own(self):
        standing = ((1, 2), (0, 3), 4)
        told = meetings(SORTER, standing)
        kept = list(told)
        told.append((9, 9, 9))
        told[0] = None
        self.assertEqual(meetings(SORTER, standing), kept)
        self.assertIsNot(meetings(SORTER, standing), meetings(SORTER, standing))


class Behind(unittest.TestCase):
    def test_written_out(self):
        self.assertEqual(behind(SORTER, ((1, 2), (0, 3), 4), (0, 0, 1)), ((0, 2), (1, 3), 4))
        self.assertEqual(behind(SORTER, ((1, 2), (0, 3), 4), (0, 1, 1)), ((1, 1), (0, 4), 4))
        self.assertEqual(behind(SORTER, ((1, 2), (0, 3), 4), (1, 1, 1)), ((1, 2), (0, 2), 5))

    def test_the_floors_own_tables(self):
        stays, ups = ((1, 2, 0), (2, 0, 1), (0, 1, 2)), ((2, 0, 0), (0, 1, 1), (0, 1, 0))
        house = ((stays, ups), (ups, stays))
        standing = ((1, 1, 0), (1, 0, 2), 0)
        self.assertEqual(behind(house, standing, (0, 0, 1)), ((0, 0, 1), (2, 0, 2), 0))
        self.assertEqual(behind(house, standing, (1, 0, 2)), ((1, 1, 0), (1, 0, 1), 1))
        self.assertEqual(behind(house, standing, (1, 2, 2)), ((1, 1, 0), (2, 0, 0), 1))

    def test_person_by_person(self):
        for m, floors in SIZES:
            for seed in range(3):
                house = made_house(m, floors, seed)
                standing = made_standing(house, 8, seed)
                for meeting in every_meeting(standing):
                    told = behind(house, standing, meeting)
                    self.assertEqual(told, person_by_person(house, standing, meeting))
                    self.assertTrue(is_standing(house, told))

    def test_great_counts(self):
        house = SORTER
        for many in (HUGE, HUGE + 1):
            self.assertEqual(
                behind(house, ((many, many), (many, many), many), (1, 0, 1)),
                ((many, many), (many - 1, many), many + 1))
            self.assertEqual(
                behind(house, ((many, many), (many, many), many), (0, 1, 1)),
                ((many, many - 1), (many, many + 1), many))

    def test_no_meeting(self):
        for m, floors in SIZES:
            house = made_house(m, floors)
            for people in (0, 1, 4):
                standing = made_standing(house, people, people)
                for thing in no_meetings(house, standing):
                    with self.assertRaises(NoMeeting) as caught:
                        behind(house, standing, thing)
                    self.assertEqual(caught.exception.at, 0)
                    self.assertIs(type(caught.exception.at), int)

    def test_a_above_b(self):
        standing = ((1, 1), (1, 1), 0)
        self.assertEqual(behind(SORTER, standing, (0, 0, 1)), ((0, 1), (2, 1), 0))
        with self.assertRaises(NoMeeting):
            behind(SORTER, standing, (0, 1, 0))

    def test_truths_are_no_numbers(self):
        standing = ((3, 3), (3, 3), 0)
        for thing in itertools.product((0, False, 1, True), repeat=3):
            truths = [one for one in thing if isinstance(one, bool)]
            if truths:
                with self.assertRaises(NoMeeting):
                    behind(SORTER, standing, thing)

    def test_what_is_handed_in_stays(self):
        standing = ((3, 3), (3, 3), 0)
        for thing in ([0, 0, 0], [[0], 0, 0], {"a": [1]}, (0, [0], 0)):
            kept = copy.deepcopy(thing)
            with self.assertRaises(NoMeeting):
                behind(SORTER, standing, thing)
            self.assertIs(is_standing(SORTER, thing), False)
            with self.assertRaises(NoStanding):
                meetings(SORTER, thing)
            with self.assertRaises(NoCompany):
                standing_of(SORTER, thing)
            self.assertEqual(thing, kept)
        self.assertEqual(standing, ((3, 3), (3, 3), 0))


class Rest(unittest.TestCase):
    def test_at_most_one_on_each_floor(self):
        for m, floors in SIZES:
            house = made_house(m, floors)
            for people in (0, 1, 2, 3, 4):
                for seed in range(6):
                    standing = made_standing(house, people, seed)
                    told = is_rest(house, standing)
                    self.assertIs(told, not every_meeting(standing))

    def test_each_floor_counts(self):
        for m, floors in SIZES:
            house = made_house(m, floors)
            full = (put((0,) * m, m - 1, 1),) * floors + (HUGE,)
            self.assertIs(is_rest(house, full), True)
            self.assertIs(is_rest(house, nobody(house)), True)
            for floor in range(floors):
                for number in range(m):
                    counts = list(full[floor])
                    counts[number] += 1
                    self.assertIs(is_rest(house, put(full, floor, tuple(counts))), False)


class TillRest(unittest.TestCase):
    def test_written_out(self):
        self.assertEqual(how_long(SORTER, ((1, 2), (0, 3), 4)), 2 + 4)
        self.assertEqual(who_rests(SORTER, ((1, 2), (0, 3), 4)), (True, True))
        self.assertEqual(how_long(SORTER, nobody(SORTER)), 0)
        self.assertEqual(who_rests(SORTER, nobody(SORTER)), (False, False))
        self.assertEqual(who_rests(SORTER, ((0, 0), (0, 1), 0)), (False, True))
        self.assertEqual(who_rests(SORTER, ((1, 0), (0, 0), 7)), (True, False))

    def test_the_same_in_every_order(self):
        for m, floors in SIZES:
            for people in range(6):
                house = made_house(m, floors, people)
                standing = made_standing(house, people, people)
                told = who_rests(house, standing)
                self.assertIs(type(told), tuple)
                for many, end in all_ends(house, standing):
                    self.assertEqual(how_long(house, standing), many)
                    self.assertEqual(told, tuple(sum(counts) == 1 for counts in end[:-1]))
                    self.assertTrue(all(type(truth) is bool for truth in told))

    def test_many_people_in_any_order(self):
        chance = random.Random(5)
        for m, floors in SIZES:
            house = made_house(m, floors)
            standing = made_standing(house, 40, m)
            here, many = standing, 0
            while nexts := meetings(house, here):
                here = behind(house, here, chance.choice(nexts))
                many += 1
            self.assertTrue(is_rest(house, here))
            self.assertEqual(how_long(house, standing), many)
            self.assertEqual(who_rests(house, standing), tuple(sum(counts) == 1 for counts in here[:-1]))

    def test_great_counts(self):
        for many in (HUGE, HUGE + 1, 10 ** 30):
            self.assertEqual(how_long(SORTER, ((many, 0), (0, 0), 5)), 2 * many - 3)
            self.assertEqual(how_long(SORTER, ((0, 0), (many, many), 0)), 2 * many - 1)
            self.assertEqual(how_long(SORTER, ((many, many), (many, many), many)), 6 * many - 3)
            self.assertEqual(how_long(SORTER, ((0, 0), (0, 0), many)), 0)
            self.assertEqual(who_rests(SORTER, ((many, many), (0, 0), 0)), (True, True))
            self.assertEqual(who_rests(SORTER, ((0, 0), (many, 0), 0)), (False, True))
            self.assertEqual(who_rests(SORTER, ((0, 0), (0, 0), many)), (False, False))

    def test_great_counts_meeting_by_meeting(self):
        chance = random.Random(6)
        for m, floors in SIZES:
            house = made_house(m, floors)
            here = ((HUGE,) * m,) * floors + (0,)
            many = how_long(house, here)
            for step in range(12):
                here = behind(house, here, chance.choice(meetings(house, here)))
                self.assertEqual(how_long(house, here), many - step - 1)
                self.assertEqual(who_rests(house, here), (True,) * floors)

    def test_each_floor_leaves_one(self):
        for floors in range(1, 5):
            house = made_house(2, floors)
            for many in range(8):
                standing = put(nobody(house), 0, (0, many))
                self.assertEqual(who_rests(house, standing), tuple(many > floor for floor in range(floors)))
                self.assertEqual(how_long(house, standing), sum(max(0, many - k - 1) for k in range(floors)))


class Companies(unittest.TestCase):
    def test_standing_of(self):
        self.assertEqual(standing_of(SORTER, (3, 4)), ((3, 4), (0, 0), 0))
        for m, floors in SIZES:
            house = made_house(m, floors)
            for many in (0, 1, 5, HUGE - 1, HUGE):
                company = tuple(range(1, m)) + (many,)
                told = standing_of(house, company)
                self.assertEqual(told, (company,) + ((0,) * m,) * (floors - 1) + (0,))
                self.assertIs(is_standing(house, told), True)

    def test_no_company(self):
        for m, floors in SIZES:
            house = made_house(m, floors)
            company = tuple(range(m))
            wrong = [list(company), company + (0,), company[:-1], (company,), (company, 0), (), str(company)]
            wrong += [dict(enumerate(company)), nobody(house), "0" * m, b"\x00" * m, set(company)]
            for at in range(m):
                for new in (HUGE + 1, 10 ** 30, -1, -HUGE, True, False, None, "1", (1,), [1]):
                    wrong.append(put(company, at, new))
            wrong += [thing for thing in other_kinds() if not (isinstance(thing, tuple) and len(thing) == m)]
            for thing in wrong:
                with self.assertRaises(NoCompany):
                    standing_of(house, thing)

    def test_together(self):
        self.assertEqual(together(SORTER, ((1, 2), (3, 4), 5), ((10, 20), (30, 40), 50)), ((11, 22), (33, 44), 55))
        for m, floors in SIZES:
            house = made_house(m, floors)
            one, other = made_standing(house, 9, 1), made_standing(house, 6, 2)
            told = together(house, one, other)
            rows = tuple(tuple(map(sum, zip(*pair))) for pair in zip(one[:-1], other[:-1]))
            self.assertEqual(told, rows + (one[-1] + other[-1],))
            self.assertEqual(told, together(house, other, one))
            self.assertEqual(together(house, one, nobody(house)), one)
            self.assertIs(is_standing(house, told), True)

    def test_sums_above_the_bound_are_let_in_again(self):
        for m, floors in SIZES:
            house = made_house(m, floors)
            one = ((HUGE,) * m,) * floors + (HUGE,)
            told = together(house, one, one)
            self.assertEqual(told, ((2 * HUGE,) * m,) * floors + (2 * HUGE,))
            self.assertIs(is_standing(house, one), True)
            self.assertIs(is_standing(house, told), False)
            self.assertEqual(together(house, told, one), ((3 * HUGE,) * m,) * floors + (3 * HUGE,))


class Soon(unittest.TestCase):
    def test_no_call_asks_anything_of_each_number_of_the_house(self):
        # The time of a call hangs on how much it calls; the greatest house has 288 numbers.
        house = made_house(6, 4)
        standing = made_standing(house, 5)
        meeting = every_meeting(standing)[0]
        asked = [
            lambda: is_standing(house, standing), lambda: meetings(house, standing),
            lambda: behind(house, standing, meeting), lambda: is_rest(house, standing),
            lambda: how_long(house, standing), lambda: who_rests(house, standing),
            lambda: standing_of(house, standing[0]), lambda: together(house, standing, standing),
        ]
        for call in asked:
            calls = []
            sys.setprofile(lambda frame, what, _: calls.append(frame) if what == "call" else None)
            try:
                call()
            finally:
                sys.setprofile(None)
            self.assertLess(len(calls), 40)


class NotChanged(unittest.TestCase):
    def test_nothing_is_kept_between_calls(self):
        house, standing = made_house(3, 2), made_standing(made_house(3, 2), 9)
        kept = copy.deepcopy((house, standing))
        first = [call(house, standing) for call in (meetings, is_rest, how_long, who_rests)]
        first[0].clear()
        self.assertEqual(meetings(house, standing), every_meeting(standing))
        self.assertEqual([is_rest(house, standing), how_long(house, standing), who_rests(house, standing)], first[1:])
        self.assertEqual((house, standing), kept)


if __name__ == "__main__":
    unittest.main()
