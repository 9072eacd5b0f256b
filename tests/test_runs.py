"""[8] and [9]: runs, the first run, ends and ways; and what [2] says of them."""

import copy
import random
import time
import unittest
from unittest import mock

from floormeet import runs
from floormeet.errors import NoHouse, NoMeeting, NoStanding, TooMany
from floormeet.runs import ends, first_run, run, ways
from floormeet.standings import behind, how_long, is_rest, meetings, who_rests
from tests.makers import (
    HUGE, SIZES, SORTER, all_ends, any_run, counted_ways, leaning_houses, made_house, made_standing,
    meeting_later, nobody, on_floor, other_kinds, person_by_person, sure_houses,
)

NO_HOUSES = other_kinds() + [list(SORTER), SORTER[0], (SORTER,), SORTER * 3]
NO_STANDINGS = other_kinds() + [list(nobody(SORTER)), ((1, 2), (0, 3)), ((1, 2, 0), (0, 3), 0), ((1, -1), (0, 3), 0)]


def every_run(house, standing):
    """All runs to rest with their ends, one by one."""
    nexts = meeting_later(house, standing)
    if not nexts:
        return [([], standing)]
    return [([meeting] + row, end) for meeting, here in nexts for row, end in every_run(house, here)]


class Refusals(unittest.TestCase):
    CALLS = (lambda house, standing: run(house, standing, [None]), first_run, ends, ways)

    def test_no_house_first(self):
        many = ((100, 100), (0, 0), 0)
        for call in self.CALLS:
            for thing in NO_HOUSES:
                for standing in (many, nobody(SORTER), None, thing):
                    with self.assertRaises(NoHouse):
                        call(thing, standing)

    def test_no_standing_next(self):
        for call in self.CALLS:
            for thing in NO_STANDINGS:
                with self.assertRaises(NoStanding):
                    call(SORTER, thing)

    def test_too_many(self):
        for most, calls in ((60, (first_run,)), (9, (ends, ways))):
            for m, floors in SIZES:
                house = made_house(m, floors)
                for many in (most + 1, most + 2, 1000, HUGE, HUGE + 1, 10 ** 30):
                    rows = [(0,) * m for _ in house]
                    rows[0] = (many - 2,) + (0,) * (m - 1)
                    rows[-1] = rows[-1][:-1] + (rows[-1][-1] + 2,)
                    for call in calls:
                        with self.assertRaises(TooMany) as caught:
                            call(house, tuple(rows) + (5,))
                        self.assertEqual(caught.exception.many, many)
                        self.assertIs(type(caught.exception.many), int)

    def test_who_is_out_is_not_counted(self):
        for m, floors in SIZES:
            house = made_house(m, floors)
            for out in (1, 61, HUGE, 10 ** 30):
                few = nobody(house)[:-1] + (out,)
                self.assertEqual(first_run(house, few), [])
                self.assertEqual(ends(house, few), [few])
                self.assertEqual(ways(house, few), {few: 1})
                nine = on_floor(house, floors - 1, [0] * 9)[:-1] + (out,)
                self.assertEqual({end[-1] for end in ends(house, nine)}, {out + 8})
                sixty = on_floor(house, floors - 1, [0] * 60)[:-1] + (out,)
                self.assertEqual(len(first_run(house, sixty)), 59)


class Run(unittest.TestCase):
    def test_written_out(self):
        here = ((1, 2), (0, 0), 0)
        self.assertEqual(run(SORTER, here, []), here)
        self.assertEqual(run(SORTER, here, [(0, 0, 1)]), ((0, 2), (1, 0), 0))
        self.assertEqual(run(SORTER, here, [(0, 0, 1), (0, 1, 1), (1, 0, 1)]), ((0, 1), (0, 1), 1))

    def test_meeting_by_meeting(self):
        chance = random.Random(1)
        for m, floors in SIZES:
            for people in (0, 1, 2, 5, 12):
                house = made_house(m, floors, people)
                standing = made_standing(house, people, people)
                row, end = any_run(house, standing, chance)
                here = standing
                for many in range(len(row) + 1):
                    self.assertEqual(run(house, standing, row[:many]), here)
                    if many < len(row):
                        here = person_by_person(house, here, row[many])
                self.assertEqual(here, end)

    def test_great_counts_and_long_runs(self):
        for m, floors in SIZES:
            house = made_house(m, floors)
            for many in (HUGE, HUGE + 1, 10 ** 30):
                standing = ((many,) * m,) * floors + (many,)
                row = [(k % floors, k % m, m - 1) for k in range(200)] * 10
                here = standing
                for meeting in row[:20]:
                    here = behind(house, here, meeting)
                self.assertEqual(run(house, standing, row[:20]), here)
                told = run(house, standing, row)
                self.assertEqual(sum(map(sum, told[:-1])) + told[-1], (floors * m + 1) * many)
                self.assertEqual(how_long(house, told), how_long(house, standing) - 2000)

    def test_no_meeting_tells_the_first_place(self):
        chance = random.Random(2)
        wrong = other_kinds() + [(9, 0, 0), (0, 0), (0, 0, 0, 0), [0, 0, 0], (0, 0, 9), (0, -1, 0), (True, 0, 0), "000"]
        for m, floors in SIZES:
            house = made_house(m, floors)
            standing = made_standing(house, 7, m)
            row, _ = any_run(house, standing, chance)
            for at in {0, len(row) // 2, len(row)}:
                for thing in wrong:
                    # Behind the first wrong one anything may stand: it isn't looked at.
                    for tail in ([], row[at:], [None, thing]):
                        with self.assertRaises(NoMeeting) as caught:
                            run(house, standing, row[:at] + [thing] + tail)
                        self.assertEqual(caught.exception.at, at)
                        self.assertIs(type(caught.exception.at), int)

    def test_meetings_of_who_does_not_stand_there(self):
        with self.assertRaises(NoMeeting) as caught:
            run(SORTER, ((1, 2), (0, 0), 0), [(0, 0, 1), (1, 0, 0)])
        self.assertEqual(caught.exception.at, 1)
        # Two have met, so nobody of number 0 is left there.
        with self.assertRaises(NoMeeting) as caught:
            run(SORTER, ((1, 2), (0, 0), 0), [(0, 0, 1), (0, 0, 1)])
        self.assertEqual(caught.exception.at, 1)
        with self.assertRaises(NoMeeting) as caught:
            run(SORTER, ((1, 1), (0, 0), 0), [(0, 1, 0)])
        self.assertEqual(caught.exception.at, 0)
        with self.assertRaises(NoMeeting) as caught:
            run(SORTER, ((1, 1), (0, 0), 0), [(0, 0, 1), (0, 1, 1)])
        self.assertEqual(caught.exception.at, 1)

    def test_what_is_handed_in_stays(self):
        house, standing = SORTER, ((1, 2), (0, 0), 0)
        for row in ([(0, 0, 1), (0, 1, 1)], [(0, 0, 1), [0, 1, 1]], [[], {"a": [1]}]):
            kept = copy.deepcopy(row)
            try:
                run(house, standing, row)
            except NoMeeting:
                pass
            self.assertEqual(row, kept)
        self.assertEqual(standing, ((1, 2), (0, 0), 0))


class FirstRun(unittest.TestCase):
    def test_written_out(self):
        self.assertEqual(first_run(SORTER, ((1, 2), (0, 0), 0)), [(0, 0, 1), (0, 1, 1), (1, 0, 1)])
        self.assertEqual(first_run(SORTER, ((2, 2), (0, 0), 0)), [(0, 0, 0), (0, 0, 1), (0, 1, 1), (1, 0, 0), (1, 0, 1)])
        self.assertEqual(first_run(SORTER, ((0, 1), (1, 0), 0)), [])

    def test_the_least_of_all_runs(self):
        for m, floors in SIZES:
            for people in range(5):
                house = made_house(m, floors, people)
                standing = made_standing(house, people, m)
                self.assertEqual(first_run(house, standing), min(row for row, _ in every_run(house, standing)))

    def test_the_least_of_all_runs_from_floor_0(self):
        for m in range(1, 7):
            for floors in (1, 2, 3):
                house = made_house(m, floors)
                standing = on_floor(house, 0, [k % m for k in range(4)])
                self.assertEqual(first_run(house, standing), min(row for row, _ in every_run(house, standing)))

    def test_to_sixty_people(self):
        for m, floors in SIZES:
            house = made_house(m, floors)
            for standing in (made_standing(house, 60, m), made_standing(house, 59, m), on_floor(house, 0, [m - 1] * 60)):
                told = first_run(house, standing)
                self.assertIs(type(told), list)
                self.assertEqual(len(told), how_long(house, standing))
                here = standing
                for meeting in told:
                    self.assertEqual(meeting, meetings(house, here)[0])
                    here = behind(house, here, meeting)
                self.assertTrue(is_rest(house, here))
                self.assertEqual(run(house, standing, told), here)

    def test_the_told_list_is_the_askers_own(self):
        standing = ((1, 2), (0, 0), 0)
        told = first_run(SORTER, standing)
        kept = list(told)
        told.clear()
        self.assertEqual(first_run(SORTER, standing), kept)


class Ends(unittest.TestCase):
    def agrees(self, house, standing):
        due = counted_ways(house, standing)
        told = ways(house, standing)
        self.assertEqual(told, due)
        self.assertIs(type(told), dict)
        self.assertEqual(list(told), sorted(due))
        self.assertEqual(ends(house, standing), sorted(due))
        self.assertIs(type(ends(house, standing)), list)

    def test_written_out(self):
        standing = ((1, 2), (0, 0), 4)
        self.assertEqual(ends(SORTER, standing), [((0, 1), (0, 1), 5)])
        self.assertEqual(ways(SORTER, standing), {((0, 1), (0, 1), 5): 2})
        # Of two 0 and a 1, either both 0 meet first, or a 0 and the 1.
        house = ((((1, 0), (0, 1)), ((0, 0), (0, 0))),)
        self.assertEqual(ends(house, ((2, 1), 0)), [((0, 1), 2)])
        self.assertEqual(ways(house, ((2, 1), 0)), {((0, 1), 2): 2})
        house = ((((1, 1), (1, 0)), ((0, 0), (0, 0))),)
        self.assertEqual(ends(house, ((2, 1), 0)), [((0, 1), 2), ((1, 0), 2)])
        self.assertEqual(list(ways(house, ((2, 1), 7)).items()), [(((0, 1), 9), 1), (((1, 0), 9), 1)])

    def test_runs_one_by_one(self):
        for m, floors in SIZES:
            for people in range(5):
                house = made_house(m, floors, people)
                standing = made_standing(house, people, floors)
                due = {}
                for _, end in every_run(house, standing):
                    due[end] = due.get(end, 0) + 1
                self.assertEqual(ways(house, standing), due)
                self.assertEqual(ends(house, standing), sorted(due))
                self.assertEqual({end for _, end in all_ends(house, standing)}, set(due))

    def test_unfair_houses_of_all_sizes(self):
        for m, floors in SIZES:
            for people in range(10):
                house = made_house(m, floors, people)
                self.agrees(house, made_standing(house, people, m))

    def test_fair_houses_of_all_sizes(self):
        for at, house in enumerate(sure_houses() + leaning_houses()):
            self.agrees(house, made_standing(house, at % 10, at))
            self.assertEqual(len(ends(house, made_standing(house, 9, at))), 1)

    def test_all_on_floor_0(self):
        for m, floors in SIZES:
            most = {1: 9, 2: 9, 3: 9, 4: 8, 5: 6, 6: 6}[m]
            for people in range(most + 1):
                house = made_house(m, floors, people)
                self.agrees(house, on_floor(house, 0, [k * k % m for k in range(people)]))

    def test_some_people_on_each_floor_alone(self):
        for m, floors in SIZES:
            house = made_house(m, floors, 3)
            for floor in range(floors):
                self.agrees(house, on_floor(house, floor, [k % m for k in range(6 if m < 5 else 5)]))

    def test_nine_on_floor_0_of_greater_houses(self):
        for m, floors in ((4, 2), (4, 3), (5, 2), (6, 1), (6, 2)):
            house = made_house(m, floors, 1)
            self.agrees(house, on_floor(house, 0, [k % m for k in range(9)]))

    def test_however_many_words_are_let(self):
        for most in (1, 10, 100, 1000):
            with mock.patch.object(runs, "MOST_PLACES", most):
                for m, floors in SIZES:
                    house = made_house(m, floors, most)
                    self.agrees(house, made_standing(house, 6, most))
                    self.agrees(house, on_floor(house, 0, [k % m for k in range(6 if m < 5 else 5)]))

    def test_meeting_by_meeting(self):
        for m, floors in ((6, 2), (6, 3), (6, 4), (5, 4)):
            house = made_house(m, floors, 2)
            standing = on_floor(house, 0, [k % m for k in range(6)])
            due = {}
            for _, here in meeting_later(house, standing):
                for end, many in ways(house, here).items():
                    due[end] = due.get(end, 0) + many
            self.assertEqual(ways(house, standing), due)
            self.assertEqual(ends(house, standing), sorted(due))

    def test_ends_are_at_rest(self):
        for m, floors in SIZES:
            house = made_house(m, floors, 4)
            standing = made_standing(house, 9, 4)
            for end in ends(house, standing):
                self.assertTrue(is_rest(house, end))
                self.assertEqual(tuple(sum(counts) == 1 for counts in end[:-1]), who_rests(house, standing))

    def test_what_is_told_is_the_askers_own(self):
        house = made_house(3, 2)
        standing = made_standing(house, 6)
        first, second = ends(house, standing), ways(house, standing)
        kept = list(first), dict(second)
        first.clear()
        second.clear()
        self.assertEqual((ends(house, standing), ways(house, standing)), kept)

    def test_nine_people_soon(self):
        # Far more time than is due, so that a slow machine passes: going through all standings of
        # these one by one takes longer still.
        for m, floors in ((6, 2), (4, 4), (5, 3)):
            house = made_house(m, floors, 1)
            standing = on_floor(house, 0, [k % m for k in range(9)])
            start = time.perf_counter()
            self.assertEqual(list(ways(house, standing)), ends(house, standing))
            self.assertLess(time.perf_counter() - start, 5)
        house = made_house(6, 4, 1)
        start = time.perf_counter()
        self.assertGreater(len(ends(house, on_floor(house, 0, [k % 6 for k in range(9)]))), 100)
        self.assertGreater(len(ways(house, made_standing(house, 9, 1))), 1)
        self.assertLess(time.perf_counter() - start, 5)


if __name__ == "__main__":
    unittest.main()
