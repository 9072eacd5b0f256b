"""[4]: houses and their sizes."""

import copy
import random
import sys
import unittest
from fractions import Fraction

from floormeet.errors import NoHouse
from floormeet.houses import is_house, size
from tests.makers import HUGE, SIZES, SORTER, made_house, made_table, other_kinds


def listed(thing):
    """The same with lists in the place of tuples, all through."""
    if isinstance(thing, tuple):
        return [listed(one) for one in thing]
    return thing


def put(thing, at, new):
    """The tuple with another thing at this place."""
    return thing[:at] + (new,) + thing[at + 1:]


def with_number(house, floor, which, a, b, new):
    """The house with another number in one table at a, b only."""
    table = house[floor][which]
    table = put(table, a, put(table[a], b, new))
    return put(house, floor, put(house[floor], which, table))


def with_table(house, floor, which, table):
    return put(house, floor, put(house[floor], which, table))


def table_places(house):
    return [(floor, which) for floor in range(len(house)) for which in (0, 1)]


def tables_of_wrong_form(table):
    """What is nearly the table: rows and numbers more or fewer, lists in the place of tuples."""
    m = len(table)
    yield table + (table[-1],)
    yield table[:-1]
    yield list(table)
    yield ()
    yield tuple(row + (0,) for row in table)
    yield tuple(row[:-1] for row in table)
    for a in range(m):
        for new in (table[a] + (0,), table[a][:-1], list(table[a]), None, 0, "0" * m, b"\x00" * m, ()):
            yield put(table, a, new)


class Alike:
    """A thing that is alike to one other, or to any."""

    def __init__(self, other=None):
        self.other = other

    def __eq__(self, thing):
        return self.other is None or self.other == thing

    def __ne__(self, thing):
        return not self == thing


class Houses(unittest.TestCase):
    def refused(self, thing):
        self.assertIs(is_house(thing), False)
        with self.assertRaises(NoHouse):
            size(thing)

    def test_houses_of_all_sizes(self):
        for m, floors in SIZES:
            for seed in range(5):
                house = made_house(m, floors, seed)
                self.assertIs(is_house(house), True)
                told = size(house)
                self.assertEqual(told, (m, floors))
                self.assertIs(type(told), tuple)

    def test_houses_written_out(self):
        least = ((((0,),), ((0,),)),)
        self.assertIs(is_house(least), True)
        self.assertEqual(size(least), (1, 1))
        self.assertIs(is_house(SORTER), True)
        self.assertEqual(size(SORTER), (2, 2))
        three = ((0, 1, 2), (1, 2, 0), (2, 0, 1))
        self.assertEqual(size(((three, three),)), (3, 1))

    def test_numbers_that_are_none(self):
        for m, floors in SIZES:
            house = made_house(m, floors)
            wrong = [m, m + 1, HUGE, 10 ** 30, -1, -m, -HUGE, True, False, "0", "a", "", None, (), (0,), [0], b"0", len]
            for floor, which in table_places(house):
                for a in range(m):
                    for new in wrong:
                        self.refused(with_number(house, floor, which, a, a, new))

    def test_numbers_that_are_none_both_ways_about(self):
        for m, floors in SIZES:
            house = made_house(m, floors)
            for floor, which in table_places(house):
                for a in range(m):
                    for b in range(a):
                        for new in (m, -1, True, False, "1", None):
                            thing = with_number(house, floor, which, a, b, new)
                            self.refused(with_number(thing, floor, which, b, a, new))

    def test_tables_that_are_not_alike_both_ways_about(self):
        for m, floors in SIZES:
            house = made_house(m, floors)
            for floor, which in table_places(house):
                for a in range(m):
                    for b in range(m):
                        if a != b:
                            new = (house[floor][which][a][b] + 1) % m
                            self.refused(with_number(house, floor, which, a, b, new))

    def test_tables_of_another_form(self):
        for m, floors in SIZES:
            house = made_house(m, floors)
            for floor, which in table_places(house):
                for table in tables_of_wrong_form(house[floor][which]):
                    self.refused(with_table(house, floor, which, table))
                for thing in other_kinds():
                    self.refused(with_table(house, floor, which, thing))

    def test_floors_of_another_form(self):
        for m, floors in SIZES:
            house = made_house(m, floors)
            for floor in range(floors):
                stay, up = house[floor]
                for new in ([stay, up], (stay,), (stay, up, up), (), {0: stay, 1: up}, None, "su", stay + up):
                    if new != (stay, up):
                        self.refused(put(house, floor, new))
                for thing in other_kinds():
                    self.refused(put(house, floor, thing))

    def test_floors_more_or_fewer(self):
        for m in range(1, 7):
            four = made_house(m, 4)
            self.assertIs(is_house(four), True)
            self.refused(four + four[:1])
            self.refused(four * 2)
            self.refused(four * 500)
        self.refused(())

    def test_floors_and_tables_of_other_sizes(self):
        for m, floors in SIZES:
            house = made_house(m, floors)
            for other in range(1, 8):
                if other != m:
                    table = tuple((0,) * other for _ in range(other))
                    for floor, which in table_places(house):
                        self.refused(with_table(house, floor, which, table))
                    if floors > 1:
                        for floor in range(floors):
                            self.refused(put(house, floor, (table, table)))

    def test_no_number_and_more_than_six(self):
        for m in (0, 7, 8, 12):
            table = made_table(m, random.Random(m)) if m else ()
            self.refused(((table, table),))
            self.refused(((table, table),) * 2)

    def test_lists_and_levels(self):
        for m, floors in SIZES:
            house = made_house(m, floors)
            self.refused(listed(house))
            self.refused(list(house))
            self.refused((house,))
            self.refused(house[0])
            self.refused(house[0][0])
            self.refused(house[0][0][0])
            self.refused(str(house))
            self.refused({house: house})
            self.refused(dict(enumerate(house)))

    def test_other_kinds(self):
        for thing in other_kinds():
            self.refused(thing)

    def test_what_is_like_a_house_seen_ahead(self):
        for m, floors in SIZES:
            house = made_house(m, floors)
            for floor, which in table_places(house):
                for a in range(m):
                    for b in range(m):
                        number = house[floor][which][a][b]
                        for new in (bool(number), Fraction(number), Alike(), Alike(number)):
                            thing = with_number(house, floor, which, a, b, new)
                            self.assertTrue(is_house(house))
                            self.refused(thing)
                            self.assertTrue(is_house(house))
                            self.assertEqual(size(house), (m, floors))
            for new in (Alike(), listed(house), list(house)):
                self.assertTrue(is_house(house))
                self.refused(new)
            for floor, which in table_places(house):
                for new in (Alike(), list(house[floor][which])):
                    self.assertTrue(is_house(house))
                    self.refused(with_table(house, floor, which, new))
                    self.refused(put(house, floor, new))

    def test_houses_one_behind_the_other(self):
        houses = [made_house(m, floors, seed) for m, floors in SIZES for seed in range(2)]
        for one in houses:
            for other in (houses[0], houses[-1], one, copy.deepcopy(one)):
                self.assertIs(is_house(other), True)
                self.assertEqual(size(one), (len(one[0][0]), len(one)))
                self.refused(one + one + one + one + one)

    def test_great_things_are_soon_known_to_be_none(self):
        numbers = (0,) * 2000
        table = (numbers,) * 2000
        floor = (table,) * 2000
        for thing in (numbers, table, floor, (floor,) * 2000, ((table, table),) * 4, ((numbers, numbers),) * 4):
            self.refused(thing)
        thing = floor
        for _ in range(30):
            thing = (thing,) * 2000
            self.refused(thing)

    def test_a_look_asks_nothing_of_each_number(self):
        # However many numbers a house has, there are as few calls: that is what a look's time hangs on.
        for thing in (made_house(6, 4), (made_house(6, 1)[0],) * 4, made_house(1, 1), made_house(6, 4)):
            calls = []
            sys.setprofile(lambda frame, what, _: calls.append(frame) if what == "call" else None)
            try:
                told = is_house(thing)
            finally:
                sys.setprofile(None)
            self.assertIs(told, True)
            self.assertLess(len(calls), 10)

    def test_what_is_handed_in_stays(self):
        house = made_house(3, 2)
        for thing in (listed(house), [house], {"a": [1, [2]]}):
            kept = copy.deepcopy(thing)
            self.refused(thing)
            self.assertEqual(thing, kept)
        steps = iter([1, 2])
        self.refused(steps)
        self.assertEqual(list(steps), [1, 2])


if __name__ == "__main__":
    unittest.main()
