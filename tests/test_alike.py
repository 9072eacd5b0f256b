"""[15]: houses alike or parted by a least company, numbers that look alike, rows that tell them apart."""

import copy
import itertools
import random
import time
import unittest

from floormeet.alike import least_unlike, look_alike, telling
from floormeet.ends import end_of
from floormeet.errors import NoFloor, NoHouse, NoNumber, NoSeen, NotFair, NotLike
from floormeet.fair import is_fair, paper
from floormeet.standings import standing_of
from tests.makers import (
    HUGE, SORTER, behind_late, called_otherwise, companies_of, counting_floor, fair_houses, made_standing,
    other_kinds, plain_floor, sorting_floor, state_behind, state_of, table_of, unfair_houses,
    with_entry,
)
from tests.test_states import NO_HOUSES

COUNTER = (counting_floor(3),) * 2
# Of what goes up from floor 0 nothing is seen on floor 1: there always a 0 stays.
HIDDEN = (sorting_floor(3), plain_floor(3, 0, 2))


def no_seen(house):
    """What is no rising tuple of floors of the house."""
    floors = len(house)
    told = [(), (floors,), (-1,), (0, floors), (-1, 0), (0, 0), [0], [0, 1], (0, 1, 1), (1, 0), (True,), (False,)]
    told += [(0, True), ("0",), (None,), ((0,),), {0}, {0: 0}, "0", 0, range(1), (HUGE,), (-HUGE,), (0,) * 2000]
    told += [tuple(range(floors)) + (floors,), tuple(range(floors))[::-1] + (0,), (0, floors - 1, floors - 1)]
    return told + [thing for thing in other_kinds() if thing not in ((0,),)]


def no_numbers(m):
    return [m, m + 1, -1, HUGE, -HUGE] + [thing for thing in other_kinds() if type(thing) is not int]


def all_seen(floors):
    """All rising tuples of floors, one at least."""
    every = range(floors)
    return [seen for many in range(1, floors + 1) for seen in itertools.combinations(every, many)]


def viewed(house, seen, row, floor, number):
    """What is seen behind the people of the row and one more of this number on the floor."""
    state = behind_late(house, (None,) * len(house), *row, (floor, number))
    return tuple(state[at] for at in seen)


def all_rows(house, many):
    """All rows of so many people on any floors, the least ahead."""
    m, floors = len(house[0][0]), len(house)
    people = [(floor, number) for floor in range(floors) for number in range(m)]
    return [list(row) for row in itertools.combinations_with_replacement(people, many)]


def halved_houses():
    """Fair houses of two floors in which some numbers go on as others do."""
    told = []
    for seed in range(8):
        stay = table_of(4, lambda a, b: (a + b) % 2 + 2 * (seed % 2))
        up = table_of(4, lambda a, b: (a % 2) * (b % 2) + 2 * (seed // 2 % 2))
        told.append(called_otherwise(((stay, up), (stay, up)), seed))
    return told


def pairs_of_houses():
    """Two fair houses of one size each: some nearly the same, some not at all."""
    told = []
    by_size = {}
    for house in fair_houses():
        by_size.setdefault((len(house[0][0]), len(house)), []).append(house)
    chance = random.Random(6)
    for (m, floors), houses in by_size.items():
        for _ in range(4):
            told.append((chance.choice(houses), chance.choice(houses)))
        for house in chance.sample(houses, min(6, len(houses))):
            other = house
            for _ in range(20):
                changed = with_entry(other, chance.randrange(floors), chance.randrange(2), chance.randrange(m),
                                     chance.randrange(m), chance.randrange(m))
                if is_fair(changed):
                    other = changed
                    if chance.randrange(2):
                        break
            told.append((house, other))
    return told


class HousesRefused(unittest.TestCase):
    def test_no_house_ahead_of_all(self):
        for thing in NO_HOUSES:
            for other in (SORTER, unfair_houses()[0], thing, None):
                for one, two in ((thing, other), (other, thing)):
                    with self.assertRaises(NoHouse):
                        least_unlike(one, two)

    def test_not_fair_of_the_first_then_of_the_other(self):
        for house in unfair_houses():
            for other in (SORTER, (sorting_floor(6),) * 4, house):
                for one, two in ((house, other), (other, house)):
                    with self.assertRaises(NotFair) as caught:
                        least_unlike(one, two)
                    self.assertEqual(caught.exception.paper, paper(house))
        for one, two in itertools.permutations(unfair_houses(), 2):
            with self.assertRaises(NotFair) as caught:
                least_unlike(one, two)
            self.assertEqual(caught.exception.paper, paper(one))

    def test_not_like_then(self):
        sizes = [(m, floors) for m in range(1, 7) for floors in range(1, 5)]
        for (m, floors), (other_m, other_floors) in itertools.permutations(sizes, 2):
            with self.assertRaises(NotLike):
                least_unlike((sorting_floor(m),) * floors, (counting_floor(other_m),) * other_floors)


class LeastUnlike(unittest.TestCase):
    def test_written_out(self):
        self.assertIs(least_unlike(SORTER, SORTER), None)
        self.assertEqual(least_unlike(SORTER, (counting_floor(2),) * 2), (0, 2))
        self.assertEqual(least_unlike((sorting_floor(2),), (counting_floor(2),)), (0, 2))
        self.assertEqual(least_unlike((counting_floor(3),), (sorting_floor(3),)), (0, 2, 0))
        self.assertEqual(least_unlike((sorting_floor(3), plain_floor(3, 0, 0)), (sorting_floor(3),) * 2), (1, 2, 0))

    def test_alike_though_their_tables_are_not(self):
        for m in range(2, 7):
            for floors in range(1, 5):
                house = (sorting_floor(m),) * floors
                stay, up = house[-1]
                last = (stay, tuple(tuple(m - 1 - number for number in row) for row in up))
                self.assertNotEqual(house[-1], last)
                self.assertIs(least_unlike(house, house[:-1] + (last,)), None)
        # Nobody ever comes to floor 1 with a 0 or a 1: what becomes of them there never matters.
        other = (plain_floor(3, 0, 2), sorting_floor(3))
        for number in range(3):
            changed = with_entry(other, 1, 0, 0, 0, number)
            if is_fair(changed):
                self.assertIs(least_unlike(other, changed), None)
        changed = (plain_floor(3, 0, 2), plain_floor(3, 2, 0))
        self.assertNotEqual(changed, other)
        self.assertIs(least_unlike(other, changed), None)

    def test_against_all_companies_of_few_people(self):
        found = {}
        for house, other in pairs_of_houses():
            m = len(house[0][0])
            told = least_unlike(house, other)
            due = None
            most = 4 if m < 5 else 3
            for many in range(most + 1):
                for company in companies_of(m, many):
                    if due is None and state_behind(house, company) != state_behind(other, company):
                        due = company
            people = None if told is None else sum(told)
            found[people] = found.get(people, 0) + 1
            if due is not None:
                self.assertEqual(told, due)
            elif told is not None:
                self.assertGreater(sum(told), most)
            self.assertEqual(told, least_unlike(other, house))
        self.assertTrue(all(found.get(many, 0) > 2 for many in (None, 2, 3)), found)

    def test_more_people(self):
        # The last floor of a counter of two numbers goes on otherwise only where it comes to a sum of 1.
        for floors in range(1, 5):
            house = (counting_floor(2),) * floors
            other = house[:-1] + (plain_floor(2, 0, 0),)
            for one, two in ((house, other), (other, house)):
                told = least_unlike(one, two)
                if told is not None:
                    ends = [state_of(end_of(each, standing_of(each, told))) for each in (one, two)]
                    self.assertNotEqual(*ends)
            due = self.least_by_ends(house, other)
            self.assertEqual(least_unlike(house, other), due)

    def least_by_ends(self, house, other):
        for many in range(40):
            for company in companies_of(2, many):
                ends = [state_of(end_of(each, standing_of(each, company))) for each in (house, other)]
                if ends[0] != ends[1]:
                    return company
        return None

    def test_two_numbers_and_twenty_people(self):
        seen = set()
        for house, other in pairs_of_houses():
            if len(house[0][0]) == 2:
                told = least_unlike(house, other)
                self.assertEqual(told, self.least_by_ends(house, other))
                seen.add(None if told is None else sum(told))
        self.assertIn(None, seen)
        self.assertGreater(len(seen), 3)


class SeenRefused(unittest.TestCase):
    def test_no_house_first(self):
        for thing in NO_HOUSES:
            for other in ((0,), None, thing):
                with self.assertRaises(NoHouse):
                    look_alike(thing, other, 0)
                with self.assertRaises(NoHouse):
                    telling(thing, other, 0, 0, 0)

    def test_not_fair_next(self):
        for house in unfair_houses():
            for seen in [(0,), ()] + other_kinds()[:9]:
                with self.assertRaises(NotFair) as caught:
                    look_alike(house, seen, None)
                self.assertEqual(caught.exception.paper, paper(house))
                with self.assertRaises(NotFair) as caught:
                    telling(house, seen, None, 0, 9)
                self.assertEqual(caught.exception.paper, paper(house))

    def test_no_seen_then(self):
        for house in fair_houses()[::40]:
            for seen in no_seen(house):
                for floor in (0, -1, None, seen):
                    with self.assertRaises(NoSeen):
                        look_alike(house, seen, floor)
                    with self.assertRaises(NoSeen):
                        telling(house, seen, floor, 0, floor)

    def test_no_floor_then(self):
        for house in fair_houses()[::40]:
            for floor in no_numbers(len(house)):
                for seen in all_seen(len(house)):
                    with self.assertRaises(NoFloor):
                        look_alike(house, seen, floor)
                    for a, b in ((0, 0), (0, -1), (None, 0), (floor, floor)):
                        with self.assertRaises(NoFloor):
                            telling(house, seen, floor, a, b)

    def test_no_number_last(self):
        for house in fair_houses()[::40]:
            for number in no_numbers(len(house[0][0])):
                for seen in all_seen(len(house))[::3]:
                    for a, b in ((number, 0), (0, number), (number, number)):
                        with self.assertRaises(NoNumber):
                            telling(house, seen, len(house) - 1, a, b)


class LookAlike(unittest.TestCase):
    def test_written_out(self):
        self.assertEqual(look_alike(SORTER, (0,), 0), [[0], [1]])
        self.assertEqual(look_alike(SORTER, (0,), 1), [[0, 1]])
        self.assertEqual(look_alike(SORTER, (1,), 0), [[0], [1]])
        self.assertEqual(look_alike(HIDDEN, (0,), 0), [[0], [1], [2]])
        # Who comes first to floor 1 rests there as it came; behind that a 0 does.
        self.assertEqual(look_alike(HIDDEN, (1,), 0), [[0], [1], [2]])
        self.assertEqual(look_alike((plain_floor(3, 0, 2),) * 2, (1,), 0), [[0, 1, 2]])
        self.assertEqual(look_alike((plain_floor(3, 0, 2),) * 2, (0, 1), 0), [[0], [1], [2]])

    def test_classes_of_some(self):
        # A 2 goes on as a 0 and a 3 as a 1: on floor 0 alone they are seen apart, above alike.
        floor = table_of(4, lambda a, b: (a + b) % 2), table_of(4, lambda a, b: (a % 2) * (b % 2))
        house = (floor, floor)
        self.assertTrue(is_fair(house))
        self.assertEqual(look_alike(house, (0, 1), 0), [[0], [1], [2], [3]])
        self.assertEqual(look_alike(house, (1,), 0), [[0, 2], [1, 3]])
        self.assertEqual(look_alike(house, (1,), 1), [[0], [1], [2], [3]])
        self.assertEqual(look_alike(house, (0,), 1), [[0, 1, 2, 3]])

    def test_against_standings_of_few_people(self):
        some = 0
        few = [house for house in fair_houses(4, 3) if len(house) < 3 or len(house[0][0]) < 3]
        for house in few[::3] + halved_houses():
            m, floors = len(house[0][0]), len(house)
            rows = [row for many in range(floors + 1) for row in all_rows(house, many)]
            for seen in all_seen(floors):
                for floor in range(floors):
                    due = {}
                    for number in range(m):
                        views = tuple(viewed(house, seen, row, floor, number) for row in rows)
                        due.setdefault(views, []).append(number)
                    told = look_alike(house, seen, floor)
                    self.assertIs(type(told), list)
                    self.assertTrue(all(type(row) is list for row in told))
                    self.assertEqual(told, sorted(due.values()))
                    some += 1 < len(told) < m
        self.assertGreater(some, 5)

    def test_beside_any_standings(self):
        chance = random.Random(7)
        for at, house in enumerate(fair_houses()[::5]):
            m, floors = len(house[0][0]), len(house)
            seen = chance.choice(all_seen(floors))
            floor = chance.randrange(floors)
            told = look_alike(house, seen, floor)
            self.assertEqual(sorted(number for row in told for number in row), list(range(m)))
            self.assertEqual(told, sorted(sorted(row) for row in told))
            for row in told:
                standing = [list(counts) for counts in made_standing(house, at % 20, at)[:-1]]
                views = set()
                for number in row:
                    standing[floor][number] += 1
                    state = state_of(end_of(house, tuple(map(tuple, standing)) + (0,)))
                    standing[floor][number] -= 1
                    views.add(tuple(state[one] for one in seen))
                self.assertEqual(len(views), 1)

    def test_rows_that_tell_apart_go_with_the_classes(self):
        chance = random.Random(8)
        for house in fair_houses()[::11]:
            m, floors = len(house[0][0]), len(house)
            seen = chance.choice(all_seen(floors))
            floor = chance.randrange(floors)
            told = look_alike(house, seen, floor)
            for a in range(m):
                for b in range(m):
                    alike = any(a in row and b in row for row in told)
                    row = telling(house, seen, floor, a, b)
                    self.assertIs(row is None, alike)
                    if row is not None:
                        self.assertNotEqual(
                            viewed(house, seen, row, floor, a), viewed(house, seen, row, floor, b))


class Telling(unittest.TestCase):
    def test_written_out(self):
        self.assertEqual(telling(SORTER, (0,), 0, 0, 1), [])
        self.assertEqual(telling(SORTER, (1,), 0, 0, 1), [(0, 1)])
        self.assertEqual(telling(SORTER, (0, 1), 0, 1, 0), [])
        self.assertIs(telling(SORTER, (0,), 1, 0, 1), None)
        self.assertIs(telling(SORTER, (0, 1), 1, 1, 1), None)
        self.assertEqual(telling(HIDDEN, (1,), 0, 0, 1), [(0, 1)])
        self.assertEqual(telling(HIDDEN, (1,), 0, 0, 2), [(0, 1)])
        self.assertEqual(telling(HIDDEN, (1,), 0, 2, 1), [(0, 2)])
        sums = (counting_floor(3),) * 3
        self.assertEqual(telling(sums, (2,), 0, 0, 1), [(0, 2), (1, 2)])

    def test_against_all_rows_of_few_people(self):
        lengths = set()
        chance = random.Random(9)
        houses = [house for house in fair_houses(6, 3) if len(house) < 3 or len(house[0][0]) < 4]
        for house in houses[::3]:
            m, floors = len(house[0][0]), len(house)
            rows = [row for many in range(floors + 1) for row in all_rows(house, many)]
            for seen in all_seen(floors):
                floor = chance.randrange(floors)
                a, b = chance.randrange(m), chance.randrange(m)
                due = None
                for row in rows:
                    if viewed(house, seen, row, floor, a) != viewed(house, seen, row, floor, b):
                        due = row
                        break
                told = telling(house, seen, floor, a, b)
                self.assertEqual(told, due)
                self.assertEqual(told, telling(house, seen, floor, b, a))
                lengths.add(None if told is None else len(told))
        self.assertTrue(lengths >= {None, 0, 1, 2}, lengths)

    def test_a_number_and_itself(self):
        for house in fair_houses()[::13]:
            for seen in all_seen(len(house))[::2]:
                for floor in range(len(house)):
                    self.assertIs(telling(house, seen, floor, 0, 0), None)

    def test_more_people_on_any_floors(self):
        for house in [house for house in fair_houses(3, 4) if len(house) == 4][::6]:
            m = len(house[0][0])
            for seen in ((3,), (2,), (0, 3), (1, 2)):
                told = telling(house, seen, 0, 0, m - 1)
                for many in range(3 if told is None else len(told)):
                    for row in all_rows(house, many):
                        self.assertEqual(viewed(house, seen, row, 0, 0), viewed(house, seen, row, 0, m - 1))
                if told is not None:
                    self.assertEqual(told, sorted(told))
                    same = [row for row in all_rows(house, len(told)) if row <= told]
                    unlike = [row for row in same
                              if viewed(house, seen, row, 0, 0) != viewed(house, seen, row, 0, m - 1)]
                    self.assertEqual(unlike, [told])


class AskersOwn(unittest.TestCase):
    def test_the_told_lists_are_the_askers_own(self):
        for call in (
            lambda: look_alike(COUNTER, (1,), 0), lambda: look_alike((plain_floor(3, 0, 2),) * 2, (1,), 0),
            lambda: telling(SORTER, (1,), 0, 0, 1), lambda: telling(SORTER, (0,), 0, 0, 1),
        ):
            told = call()
            kept = copy.deepcopy(told)
            for row in told:
                if isinstance(row, list):
                    row.append(None)
            told.append([9])
            self.assertEqual(call(), kept)
            again = call()
            self.assertEqual(len({id(row) for row in again}), len(again))

    def test_what_is_handed_in_stays(self):
        for thing in ([0], {0: [1]}, [[0]]):
            kept = copy.deepcopy(thing)
            with self.assertRaises(NoSeen):
                look_alike(SORTER, thing, thing)
            with self.assertRaises(NoFloor):
                telling(SORTER, (0,), thing, thing, thing)
            with self.assertRaises(NoNumber):
                telling(SORTER, (0,), 0, thing, thing)
            self.assertEqual(thing, kept)


class Soon(unittest.TestCase):
    def test_the_greatest_houses(self):
        greatest = [house for house in fair_houses() if len(house) == 4 and len(house[0][0]) == 6]
        for house in greatest[:12]:
            for call in (
                lambda: least_unlike(house, house), lambda: look_alike(house, (0, 1, 2, 3), 0),
                lambda: look_alike(house, (3,), 0), lambda: telling(house, (3,), 0, 0, 5),
                lambda: telling(house, (0, 1, 2, 3), 0, 1, 1),
            ):
                start = time.perf_counter()
                call()
                self.assertLess(time.perf_counter() - start, 2)


if __name__ == "__main__":
    unittest.main()
