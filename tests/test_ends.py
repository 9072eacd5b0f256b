"""[12] and [3]: ends of any standings of fair houses, and who comes to each floor."""

import copy
import random
import time
import unittest

from floormeet.ends import comings, end_of
from floormeet.errors import NoHouse, NoStanding, NotFair, NotSure
from floormeet.fair import floor_kinds, is_fair, paper
from floormeet.runs import ends, first_run, run
from floormeet.standings import is_rest, together, who_rests
from tests.makers import (
    HUGE, SIZES, SORTER, any_run, counted_ways, leaning_houses, made_house, made_standing, meeting_later,
    nobody, other_kinds, sure_houses,
)

NO_HOUSES = other_kinds() + [list(SORTER), SORTER[0], (SORTER,), SORTER * 3]
NO_STANDINGS = other_kinds() + [list(nobody(SORTER)), ((1, 2), (0, 3)), ((1, 2, 0), (0, 3), 0), ((1, -1), (0, 3), 0)]


def unfair_houses():
    return [house for m, floors in SIZES for house in [made_house(m, floors, 9)] if not is_fair(house)]


def unsure_houses():
    return [house for house in leaning_houses() if "leans" in floor_kinds(house)]


def who_come(house, standing, chance):
    """Who comes to each floor on the way to rest, in an order left to chance, those there counted."""
    told = [list(counts) for counts in standing[:-1]]
    while nexts := meeting_later(house, standing):
        (floor, a, b), standing = chance.choice(nexts)
        if floor + 1 < len(house):
            told[floor + 1][house[floor][1][a][b]] += 1
    return told


def doubled(house, standing, times):
    """The end of the standing's people doubled so often: each half goes to its end ahead of the other."""
    end = end_of(house, standing)
    for _ in range(times):
        end = end_of(house, together(house, end, end))
    return end


class Refusals(unittest.TestCase):
    def test_no_house_first(self):
        for call in (end_of, comings):
            for thing in NO_HOUSES:
                for standing in (nobody(SORTER), None, thing):
                    with self.assertRaises(NoHouse):
                        call(thing, standing)

    def test_not_fair_next(self):
        for call in (end_of, comings):
            for house in unfair_houses():
                for standing in [nobody(house), made_standing(house, 5)] + other_kinds():
                    with self.assertRaises(NotFair) as caught:
                        call(house, standing)
                    self.assertEqual(caught.exception.paper, paper(house))

    def test_the_told_paper_is_the_askers_own(self):
        house = unfair_houses()[0]
        kept = paper(house)
        for _ in range(2):
            with self.assertRaises(NotFair) as caught:
                end_of(house, None)
            self.assertEqual(caught.exception.paper, kept)
            caught.exception.paper[2].clear()
            caught.exception.paper[3].append(None)

    def test_not_sure_then(self):
        for house in unsure_houses():
            for standing in [nobody(house), made_standing(house, 5)] + other_kinds():
                with self.assertRaises(NotSure):
                    comings(house, standing)
            self.assertEqual(end_of(house, nobody(house)), nobody(house))

    def test_no_standing_last(self):
        for thing in NO_STANDINGS:
            for call in (end_of, comings):
                with self.assertRaises(NoStanding):
                    call(SORTER, thing)
        for house in unsure_houses():
            for thing in other_kinds():
                with self.assertRaises(NoStanding):
                    end_of(house, thing)


class EndOf(unittest.TestCase):
    def test_written_out(self):
        self.assertEqual(end_of(SORTER, ((1, 2), (0, 0), 0)), ((0, 1), (0, 1), 1))
        self.assertEqual(end_of(SORTER, ((3, 0), (0, 0), 4)), ((1, 0), (1, 0), 5))
        self.assertEqual(end_of(SORTER, ((HUGE, 1), (0, 0), 0)), ((0, 1), (1, 0), HUGE - 1))
        self.assertEqual(end_of(SORTER, ((HUGE, 1), (0, 1), HUGE)), ((0, 1), (0, 1), 2 * HUGE))

    def test_meetings_in_several_orders(self):
        chance = random.Random(4)
        for at, house in enumerate(sure_houses() + leaning_houses()):
            for people in (0, 1, 2, 3, 7, 60):
                standing = made_standing(house, people, at)
                told = end_of(house, standing)
                for _ in range(2):
                    self.assertEqual(told, any_run(house, standing, chance)[1])
                self.assertEqual(told, run(house, standing, first_run(house, standing)))
                if people < 8:
                    self.assertEqual([told], ends(house, standing))
                    self.assertEqual([told], list(counted_ways(house, standing)))

    def test_fair_houses_of_two_numbers_as_they_come(self):
        chance = random.Random(5)
        fair = [house for floors in range(1, 5) for seed in range(150) for house in [made_house(2, floors, seed)]
                if is_fair(house)]
        self.assertGreater(len(fair), 150)
        for at, house in enumerate(fair):
            standing = made_standing(house, at % 30, at)
            self.assertEqual(end_of(house, standing), any_run(house, standing, chance)[1])

    def test_what_is_at_rest_and_nobody(self):
        for house in sure_houses() + leaning_houses():
            m, floors = len(house[0][0]), len(house)
            for out in (0, 1, HUGE, 10 ** 30):
                for number in range(m):
                    rest = (((0,) * number + (1,) + (0,) * (m - 1 - number)),) * floors + (out,)
                    self.assertEqual(end_of(house, rest), rest)
                empty = nobody(house)[:-1] + (out,)
                self.assertEqual(end_of(house, empty), empty)

    def test_great_counts_against_doubling(self):
        for at, house in enumerate(sure_houses()[::4] + leaning_houses()[::2]):
            for people in (1, 6):
                standing = made_standing(house, people, at + people)
                for times in (1, 5, 70):
                    many = 2 ** times
                    great = tuple(tuple(many * count for count in counts) for counts in standing[:-1])
                    great += (many * standing[-1],)
                    self.assertEqual(end_of(house, great), doubled(house, standing, times))

    def test_great_counts_on_any_floors(self):
        chance = random.Random(6)
        for at, house in enumerate(sure_houses() + leaning_houses()):
            m, floors = len(house[0][0]), len(house)
            for many in (HUGE, HUGE + 1, 10 ** 100):
                rows = tuple(tuple(chance.choice((0, 1, many, many - 1)) for _ in range(m)) for _ in range(floors))
                standing = rows + (many,)
                told = end_of(house, standing)
                self.assertTrue(is_rest(house, told))
                self.assertEqual(tuple(sum(counts) == 1 for counts in told[:-1]), who_rests(house, standing))
                self.assertEqual(sum(map(sum, told[:-1])) + told[-1], sum(map(sum, rows)) + many)
                self.assertTrue(all(type(count) is int for counts in told[:-1] for count in counts))
                # One meeting on, and with another one's end together, it is as it was.
                nexts = meeting_later(house, standing)
                if nexts:
                    self.assertEqual(end_of(house, chance.choice(nexts)[1]), told)
                other = made_standing(house, 9, at)
                self.assertEqual(
                    end_of(house, together(house, standing, other)),
                    end_of(house, together(house, told, end_of(house, other))))

    def test_a_counter_counts(self):
        # On a counter's floors stand the figures of the sum, the lowest on floor 0.
        for m in range(2, 7):
            for floors in range(1, 5):
                sums = tuple(tuple((a + b) % m for b in range(m)) for a in range(m))
                carries = tuple(tuple((a + b) // m for b in range(m)) for a in range(m))
                house = ((sums, carries),) * floors
                for many in (5, 1000, HUGE, 10 ** 40 + 7):
                    company = tuple(many + number for number in range(m))
                    total = sum(number * count for number, count in enumerate(company))
                    end = end_of(house, (company,) + ((0,) * m,) * (floors - 1) + (0,))
                    for counts in end[:-1]:
                        total, figure = divmod(total, m)
                        self.assertEqual(counts.index(1), figure)

    def test_what_is_handed_in_stays(self):
        standing = ((5, 3), (2, 2), 1)
        kept = copy.deepcopy((SORTER, standing))
        end_of(SORTER, standing)
        comings(SORTER, standing)
        self.assertEqual((SORTER, standing), kept)


class Comings(unittest.TestCase):
    def test_written_out(self):
        self.assertEqual(comings(SORTER, ((1, 2), (0, 0), 0)), [[1, 2], [1, 1]])
        self.assertEqual(comings(SORTER, ((3, 0), (0, 5), 4)), [[3, 0], [2, 5]])
        self.assertEqual(comings(SORTER, nobody(SORTER)), [[0, 0], [0, 0]])
        self.assertEqual(comings(SORTER, ((HUGE, HUGE), (1, 0), 0)), [[HUGE, HUGE], [HUGE + 1, HUGE - 1]])

    def test_meetings_in_several_orders(self):
        chance = random.Random(7)
        for at, house in enumerate(sure_houses()):
            for people in (0, 1, 2, 3, 8, 60):
                standing = made_standing(house, people, at)
                told = comings(house, standing)
                self.assertIs(type(told), list)
                self.assertTrue(all(type(row) is list for row in told))
                for _ in range(3):
                    self.assertEqual(told, who_come(house, standing, chance))

    def test_great_counts(self):
        chance = random.Random(8)
        for house in sure_houses():
            m, floors = len(house[0][0]), len(house)
            for many in (HUGE, HUGE + 1, 10 ** 30):
                rows = tuple(tuple(chance.choice((0, 1, many, many - 1)) for _ in range(m)) for _ in range(floors))
                standing = rows + (many,)
                told = comings(house, standing)
                self.assertEqual(len(told), floors)
                self.assertEqual(told[0], list(rows[0]))
                end = end_of(house, standing)
                rising = 0
                for counts, row in zip(rows, told):
                    self.assertEqual(sum(row), sum(counts) + rising)
                    self.assertTrue(all(after >= count for after, count in zip(row, counts)))
                    rising = max(0, sum(row) - 1)
                self.assertEqual(end[-1], many + rising)
                # What a meeting sends up has come to the next floor, and nothing else has.
                nexts = meeting_later(house, standing)
                for (floor, a, b), behind in nexts[:1] + nexts[-1:]:
                    rows_behind = comings(house, behind)
                    due = copy.deepcopy(told)
                    due[floor] = rows_behind[floor]
                    self.assertEqual(rows_behind, due)
                    stays = house[floor][0][a][b]
                    change = [0] * m
                    change[a] -= 1
                    change[b] -= 1
                    change[stays] += 1
                    self.assertEqual(rows_behind[floor], [x + y for x, y in zip(told[floor], change)])

    def test_great_counts_against_doubling(self):
        for at, house in enumerate(sure_houses()[::5]):
            standing = made_standing(house, 5, at)[:-1] + (0,)
            due = comings(house, standing)
            whole, end = standing, end_of(house, standing)
            for _ in range(65):
                # Two halves come to rest each, then who rests of both goes on alone.
                more = comings(house, together(house, end, end))
                resting = [[2 * count for count in counts] for counts in end[:-1]]
                due = [[2 * x + y - z for x, y, z in zip(*rows)] for rows in zip(due, more, resting)]
                whole, end = together(house, whole, whole), end_of(house, together(house, end, end))
                self.assertEqual(comings(house, whole), due)

    def test_the_told_lists_are_the_askers_own(self):
        standing = ((1, 2), (0, 0), 0)
        told = comings(SORTER, standing)
        told[0].clear()
        told[1][0] = 99
        told.append(None)
        self.assertEqual(comings(SORTER, standing), [[1, 2], [1, 1]])
        told = comings(((SORTER[0]),) * 2, nobody(SORTER))
        self.assertIsNot(told[0], told[1])


class Soon(unittest.TestCase):
    def test_the_greatest_houses(self):
        # Ten times what is due, so that a slow machine passes.
        for house in (sure_houses()[70], sure_houses()[71], sure_houses()[-1]):
            self.assertEqual((len(house[0][0]), len(house)), (6, 4))
            for many in (HUGE, 10 ** 300):
                for call in (end_of, comings):
                    start = time.perf_counter()
                    call(house, ((many,) * 6,) * 4 + (many,))
                    self.assertLess(time.perf_counter() - start, 1)


if __name__ == "__main__":
    unittest.main()
