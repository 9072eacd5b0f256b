"""[16] and [17]: houses built of others and by a rule, semigroups, mends."""

import copy
import itertools
import random
import time
import unittest

from floormeet.building import beside, called, counter, mends, over, semigroups, sorter
from floormeet.ends import end_of
from floormeet.errors import NoHouse, NotLike
from floormeet.fair import is_fair
from floormeet.houses import is_house, size
from floormeet.standings import standing_of
from tests.makers import (
    HUGE, SIZES, SORTER, counting_floor, fair_houses, made_house, other_kinds, plain_floor, sorting_floor, state_of,
    unfair_houses, with_entry,
)
from tests.test_states import NO_HOUSES


def no_sizes(most):
    """What is no whole number from 1 to most."""
    wrong = [0, most + 1, most + 2, -1, HUGE, -HUGE, 10 ** 30, True, False, "1", (1,), [1]]
    return wrong + [thing for thing in other_kinds() if type(thing) is not int]


def no_callings(m, floors):
    """What is no tuple of callings, one for each floor."""
    right = tuple(range(m))
    told = [(right,) * (floors + 1), (right,) * (floors - 1), [right] * floors, right, (list(right),) * floors]
    told += [((right,),) * floors, str(right), {0: right}, (range(m),) * floors, (right[::-1] + (m,),) * floors]
    for at in range(floors):
        ahead, behind = (right,) * at, (right,) * (floors - 1 - at)
        wrong = [right[1:], right + (m,), right + (0,), list(right), None, 0, right[:-1] + (m,), right[:-1] + (-1,)]
        wrong += [right[:-1] + (None,), right[:-1] + ("0",), tuple(map(str, right)), (), set(right)]
        if m > 1:
            wrong += [(0,) * m, right[:-1] + (right[0],), (right[1],) + right[1:], (True,) + right[:1] + right[2:]]
            wrong += [(False,) + right[1:]]
        else:
            wrong += [(False,), (1,), (True,)]
        told += [ahead + (thing,) + behind for thing in wrong]
    return told + [thing for thing in other_kinds()]


def mends_by_trying(house):
    """All mends, by every other number at every place."""
    m, floors = len(house[0][0]), len(house)
    return [
        (floor, word, a, b, number)
        for floor in range(floors) for which, word in enumerate(("stay", "up"))
        for a in range(m) for b in range(a, m) for number in range(m)
        if number != house[floor][which][a][b] and is_fair(with_entry(house, floor, which, a, b, number))]


class Over(unittest.TestCase):
    def test_written_out(self):
        low, high = sorting_floor(3), counting_floor(3)
        self.assertEqual(over((high,), (low,)), (low, high))
        self.assertEqual(over((high, low), (low, high)), (low, high, high, low))
        one = ((((0,),), ((0,),)),)
        self.assertEqual(over(one, one), one * 2)

    def test_all_sizes(self):
        for (m, floors), (other_m, other_floors) in itertools.product(SIZES, SIZES):
            house, other = made_house(m, floors, 1), made_house(other_m, other_floors, 2)
            if m == other_m and floors + other_floors < 5:
                told = over(house, other)
                self.assertEqual(told, tuple(list(other) + list(house)))
                self.assertEqual(size(told), (m, floors + other_floors))
            else:
                with self.assertRaises(NotLike):
                    over(house, other)

    def test_no_house(self):
        for call in (over, beside):
            for thing in NO_HOUSES:
                for other in (SORTER, thing, (sorting_floor(6),) * 4):
                    for one, two in ((thing, other), (other, thing)):
                        with self.assertRaises(NoHouse):
                            call(one, two)


class Beside(unittest.TestCase):
    def test_written_out(self):
        high = ((0, 1), (1, 1)), ((0, 0), (0, 1))
        three = ((0, 1, 2), (1, 2, 0), (2, 0, 1)), ((0, 0, 0), (0, 0, 1), (0, 1, 1))
        self.assertEqual(beside((high,), (three,)), ((
            ((0, 1, 2, 3, 4, 5), (1, 2, 0, 4, 5, 3), (2, 0, 1, 5, 3, 4),
             (3, 4, 5, 3, 4, 5), (4, 5, 3, 4, 5, 3), (5, 3, 4, 5, 3, 4)),
            ((0, 0, 0, 0, 0, 0), (0, 0, 1, 0, 0, 1), (0, 1, 1, 0, 1, 1),
             (0, 0, 0, 3, 3, 3), (0, 0, 1, 3, 3, 4), (0, 1, 1, 3, 4, 4)),
        ),))
        one = ((((0,),), ((0,),)),)
        self.assertEqual(beside(one, (three,)), (three,))
        self.assertEqual(beside((three,), one), (three,))
        self.assertEqual(beside((three,), (high,))[0][0][3], (3, 3, 5, 5, 1, 1))

    def test_all_sizes(self):
        for (m, floors), (other_m, other_floors) in itertools.product(SIZES, SIZES):
            house, other = made_house(m, floors, 3), made_house(other_m, other_floors, 4)
            if m * other_m < 7 and floors == other_floors:
                told = beside(house, other)
                self.assertTrue(is_house(told))
                self.assertEqual(size(told), (m * other_m, floors))
                numbers = [(a, b) for a in range(m) for b in range(other_m)]
                for floor, which in itertools.product(range(floors), (0, 1)):
                    for (a, b), (c, d) in itertools.product(numbers, numbers):
                        due = house[floor][which][a][c] * other_m + other[floor][which][b][d]
                        self.assertEqual(told[floor][which][a * other_m + b][c * other_m + d], due)
            else:
                with self.assertRaises(NotLike):
                    beside(house, other)

    def test_it_goes_as_its_parts_go(self):
        chance = random.Random(10)
        fair = fair_houses(3, 4)
        for _ in range(60):
            house = chance.choice(fair)
            m, floors = size(house)
            other = chance.choice([other for other in fair if len(other) == floors and m * len(other[0][0]) < 7])
            both = beside(house, other)
            other_m = len(other[0][0])
            self.assertTrue(is_fair(both))
            for counts in ((0, 1), (0, 1, 2, 5), (0, HUGE)):
                company = tuple(chance.choice(counts) for _ in range(m * other_m))
                one = tuple(sum(company[a * other_m:(a + 1) * other_m]) for a in range(m))
                two = tuple(sum(company[b::other_m]) for b in range(other_m))
                told = state_of(end_of(both, standing_of(both, company)))
                # Counts summed up may be above what a company may have: standings may have them.
                ends = [
                    state_of(end_of(part, (counts,) + ((0,) * len(counts),) * (floors - 1) + (0,)))
                    for part, counts in ((house, one), (other, two))]
                self.assertEqual(told, tuple(None if a is None else a * other_m + b for a, b in zip(*ends)))


class Called(unittest.TestCase):
    def test_written_out(self):
        low, high = (((0, 1), (1, 1)), ((0, 0), (0, 1))), (((1, 0), (0, 1)), ((0, 1), (1, 1)))
        self.assertEqual(called((low, high), ((0, 1), (0, 1))), (low, high))
        # 0 and 1 of floor 0 turned round, what goes up as it was.
        self.assertEqual(called((low, high), ((1, 0), (0, 1)))[0], (((0, 0), (0, 1)), ((1, 0), (0, 0))))
        # Floor 1 turned round: who comes from floor 0 is called so, and who goes out.
        self.assertEqual(called((low, high), ((0, 1), (1, 0))), (
            (((0, 1), (1, 1)), ((1, 1), (1, 0))), (((0, 1), (1, 0)), ((0, 0), (0, 1)))))
        three = ((0, 1, 2), (1, 1, 2), (2, 2, 2)), ((0, 0, 0), (0, 1, 1), (0, 1, 2))
        self.assertEqual(called((three,), ((1, 2, 0),)), (
            (((0, 0, 0), (0, 1, 2), (0, 2, 2)), ((0, 1, 2), (1, 1, 1), (2, 1, 2))),))

    def test_every_entry(self):
        chance = random.Random(11)
        for m, floors in SIZES:
            house = made_house(m, floors, 5)
            for _ in range(4):
                callings = tuple(tuple(chance.sample(range(m), m)) for _ in range(floors))
                told = called(house, callings)
                self.assertTrue(is_house(told))
                for floor, calling in enumerate(callings):
                    above = (callings + callings[-1:])[floor + 1]
                    for a, b in itertools.product(range(m), repeat=2):
                        stay, up = told[floor]
                        self.assertEqual(stay[calling[a]][calling[b]], calling[house[floor][0][a][b]])
                        self.assertEqual(up[calling[a]][calling[b]], above[house[floor][1][a][b]])
                back = tuple(tuple(calling.index(number) for number in range(m)) for calling in callings)
                self.assertEqual(called(told, back), house)
                self.assertIs(is_fair(told), is_fair(house))

    def test_ends_are_called_so(self):
        chance = random.Random(12)
        for house in fair_houses()[::9]:
            m, floors = size(house)
            callings = tuple(tuple(chance.sample(range(m), m)) for _ in range(floors))
            told = called(house, callings)
            company = tuple(chance.choice((0, 1, 3, HUGE)) for _ in range(m))
            otherwise = tuple(company[callings[0].index(number)] for number in range(m))
            end = state_of(end_of(house, standing_of(house, company)))
            due = tuple(None if number is None else calling[number] for number, calling in zip(end, callings))
            self.assertEqual(state_of(end_of(told, standing_of(told, otherwise))), due)

    def test_refusals(self):
        for m, floors in SIZES:
            house = made_house(m, floors, 6)
            for thing in no_callings(m, floors):
                if m == floors == 1 and thing == ((0,),) and type(thing[0][0]) is int:
                    continue
                with self.assertRaises(NotLike):
                    called(house, thing)
        for thing in NO_HOUSES:
            for callings in (((0, 1), (0, 1)), None, thing):
                with self.assertRaises(NoHouse):
                    called(thing, callings)


class ByARule(unittest.TestCase):
    def test_written_out(self):
        self.assertEqual(sorter(2, 2), SORTER)
        self.assertEqual(sorter(3, 1), ((((0, 1, 2), (1, 1, 2), (2, 2, 2)), ((0, 0, 0), (0, 1, 1), (0, 1, 2))),))
        self.assertEqual(counter(3, 1), ((((0, 1, 2), (1, 2, 0), (2, 0, 1)), ((0, 0, 0), (0, 0, 1), (0, 1, 1))),))
        self.assertEqual(counter(1, 2), ((((0,),), ((0,),)),) * 2)

    def test_all_sizes(self):
        for m, floors in SIZES:
            self.assertEqual(sorter(m, floors), (sorting_floor(m),) * floors)
            self.assertEqual(counter(m, floors), (counting_floor(m),) * floors)
            for house in (sorter(m, floors), counter(m, floors)):
                self.assertEqual(size(house), (m, floors))
                self.assertTrue(is_fair(house))

    def test_no_sizes(self):
        for call in (sorter, counter):
            for thing in no_sizes(6):
                for floors in (1, 4, thing):
                    with self.assertRaises(NotLike):
                        call(thing, floors)
            for thing in no_sizes(4):
                for m in (1, 6, thing):
                    with self.assertRaises(NotLike):
                        call(m, thing)
            for m, floors in ((7, 1), (1, 5), (6, 5), (0, 0), (4, 6)):
                with self.assertRaises(NotLike):
                    call(m, floors)


class Semigroups(unittest.TestCase):
    def test_written_out(self):
        self.assertEqual(semigroups(1), [((0,),)])
        self.assertEqual(semigroups(2), [
            ((0, 0), (0, 0)), ((0, 0), (0, 1)), ((0, 1), (1, 0)), ((0, 1), (1, 1)), ((1, 0), (0, 1)), ((1, 1), (1, 1))])

    def test_against_all_tables(self):
        for m in (1, 2, 3):
            due = []
            for numbers in itertools.product(range(m), repeat=m * m):
                table = tuple(numbers[a * m:(a + 1) * m] for a in range(m))
                if all(table[a][b] == table[b][a] for a in range(m) for b in range(m)) and all(
                        table[table[a][b]][c] == table[a][table[b][c]]
                        for a, b, c in itertools.product(range(m), repeat=3)):
                    due.append(table)
            told = semigroups(m)
            self.assertIs(type(told), list)
            self.assertEqual(told, due)
        self.assertEqual(len(semigroups(3)), 63)

    def test_refusals(self):
        for thing in no_sizes(3) + [4, 5, 6]:
            with self.assertRaises(NotLike):
                semigroups(thing)

    def test_the_told_list_is_the_askers_own(self):
        told = semigroups(2)
        told.clear()
        self.assertEqual(len(semigroups(2)), 6)


class Mends(unittest.TestCase):
    def test_written_out(self):
        # Of two 1 a 0 stays, of all else a 1: either two 0 leave a 0, or two 1 a 1.
        unfair = ((((1, 1), (1, 0)), ((0, 0), (0, 0))),)
        self.assertEqual(mends(unfair), [(0, "stay", 0, 0, 0), (0, "stay", 1, 1, 1)])
        self.assertEqual(mends((plain_floor(1, 0, 0),) * 4), [])
        # Who goes up from the last floor is out, with whatever number.
        self.assertEqual(mends((sorting_floor(2),)), [
            (0, "stay", 0, 0, 1), (0, "stay", 0, 1, 0), (0, "stay", 1, 1, 0),
            (0, "up", 0, 0, 1), (0, "up", 0, 1, 1), (0, "up", 1, 1, 0)])

    def test_against_trying_all(self):
        chance = random.Random(13)
        unfair = many = 0
        houses = fair_houses()[::16] + unfair_houses()[::3]
        houses += [made_house(2, floors, seed) for floors in range(1, 5) for seed in range(20)]
        houses += [made_house(3, floors, seed) for floors in (1, 2) for seed in range(20)]
        for house in fair_houses()[::14]:
            m, floors = size(house)
            houses.append(with_entry(house, chance.randrange(floors), chance.randrange(2), chance.randrange(m),
                                     chance.randrange(m), chance.randrange(m)))
        for house in houses:
            told = mends(house)
            self.assertIs(type(told), list)
            self.assertEqual(told, mends_by_trying(house))
            self.assertEqual(told, sorted(told))
            if not is_fair(house):
                unfair += 1
                many += len(told) > 1
        self.assertGreater(unfair, 50)
        self.assertGreater(many, 20)

    def test_no_house(self):
        for thing in NO_HOUSES:
            with self.assertRaises(NoHouse):
                mends(thing)

    def test_the_told_list_is_the_askers_own(self):
        told = mends(SORTER)
        kept = copy.deepcopy(told)
        told.clear()
        self.assertEqual(mends(SORTER), kept)

    def test_soon(self):
        for house in (sorter(6, 4), counter(6, 4), (plain_floor(6, 0, 5),) * 4, made_house(6, 4)):
            start = time.perf_counter()
            mends(house)
            self.assertLess(time.perf_counter() - start, 2)


if __name__ == "__main__":
    unittest.main()
