"""[10], [11] and [3]: fair houses, papers, kinds of floors, certain floors."""

import copy
import itertools
import random
import time
import unittest

from floormeet.errors import NoHouse
from floormeet.fair import certain_floors, floor_kinds, is_fair, is_paper, paper
from floormeet.runs import run
from floormeet.standings import is_rest
from tests.makers import (
    HUGE, SIZES, SORTER, any_run, counted_ways, leaning_houses, made_house, made_standing, meeting_later,
    on_floor, other_kinds, sorting_floor, sure_houses,
)

NO_HOUSES = other_kinds() + [list(SORTER), SORTER[0], (SORTER,), SORTER * 3]
# On floor 0 any three have two ends or one, as who stays of 1 and 1 tells; floor 1 takes all as one.
ROUND = (((1, 1), (1, 0)), ((0, 0), (0, 0)))
ALL_ONE = (((0, 0), (0, 0)), ((0, 0), (0, 0)))


def all_threes(house):
    m = len(house[0][0])
    return list(itertools.combinations_with_replacement(range(m), 3))


def runs_of(house, standing):
    """All runs to rest with their ends, rising."""
    nexts = meeting_later(house, standing)
    if not nexts:
        return [([], standing)]
    return sorted(([meeting] + row, end) for meeting, here in nexts for row, end in runs_of(house, here))


def fair_by_threes(house):
    return all(
        len(counted_ways(house, on_floor(house, floor, three))) == 1
        for floor in range(len(house)) for three in all_threes(house))


def least_of_all_papers(house):
    for floor in range(len(house)):
        for three in all_threes(house):
            found = runs_of(house, on_floor(house, floor, three))
            shown = [(one, other) for one, end in found for other, unlike in found if end != unlike]
            if shown:
                return (floor, three) + min(shown)
    return None


def kind_by_people(house, floor):
    """What kind the floor is, by three people who meet in each order."""
    stay, up = house[floor]
    alone = True
    for three in all_threes(house):
        if len(counted_ways(house, on_floor(house, floor, three))) > 1:
            return "falls"
        left = set()
        for a, b, c in itertools.permutations(three):
            between = stay[a][b]
            left.add((stay[between][c], tuple(sorted((up[a][b], up[between][c])))))
        alone = alone and len(left) == 1
    return "stands" if alone else "leans"


def certain_by_threes(house):
    """How many of the lowest floors come out alike in all orders for any three on any floor."""
    told = len(house)
    for floor in range(len(house)):
        for three in all_threes(house):
            found = list(counted_ways(house, on_floor(house, floor, three)))
            while len({end[:told] for end in found}) > 1:
                told -= 1
    return told


def houses():
    """Houses of all sizes, fair ones and others, of two numbers a great many."""
    told = [made_house(m, floors, seed) for m, floors in SIZES for seed in range(4 if m < 5 else 2)]
    told += [made_house(2, floors, seed) for floors in range(1, 5) for seed in range(100)]
    # The lowest floors sort and stand, some floor above falls.
    for m in range(2, 7):
        for floors in range(2, 5):
            for below in range(1, floors):
                told.append((sorting_floor(m),) * below + made_house(m, floors - below, m))
    return told + sure_houses() + leaning_houses()


class NoHouses(unittest.TestCase):
    def test_no_house(self):
        for thing in NO_HOUSES:
            for call in (is_fair, paper, floor_kinds, certain_floors):
                with self.assertRaises(NoHouse):
                    call(thing)
            for other in (None, thing, (0, (0, 0, 0), [], [])):
                with self.assertRaises(NoHouse):
                    is_paper(thing, other)


class Fair(unittest.TestCase):
    def test_written_out(self):
        self.assertIs(is_fair(SORTER), True)
        self.assertIs(paper(SORTER), None)
        self.assertIs(is_fair((ROUND,)), False)
        self.assertEqual(paper((ROUND,)), (0, (0, 0, 1), [(0, 0, 0), (0, 1, 1)], [(0, 0, 1), (0, 0, 1)]))
        self.assertEqual(
            paper((ALL_ONE, ROUND)), (1, (0, 0, 1), [(1, 0, 0), (1, 1, 1)], [(1, 0, 1), (1, 0, 1)]))
        self.assertEqual(
            paper((ROUND, ALL_ONE)),
            (0, (0, 0, 1), [(0, 0, 0), (0, 1, 1), (1, 0, 0)], [(0, 0, 1), (0, 0, 1), (1, 0, 0)]))

    def test_any_three_on_any_floor_in_all_orders(self):
        fair = 0
        for house in houses():
            told = is_fair(house)
            self.assertIs(told, fair_by_threes(house))
            self.assertIs(told, paper(house) is None)
            fair += told
        self.assertGreater(fair, 300)
        self.assertGreater(len(houses()) - fair, 200)

    def test_any_people_in_a_fair_house_have_one_end(self):
        chance = random.Random(3)
        for at, house in enumerate(sure_houses() + leaning_houses()):
            self.assertIs(is_fair(house), True)
            self.assertEqual(len(counted_ways(house, made_standing(house, at % 7, at))), 1)
            standing = made_standing(house, 30, at)
            found = {any_run(house, standing, chance)[1] for _ in range(3)}
            self.assertEqual(len(found), 1)

    def test_unfair_houses_seldom_seen(self):
        # Two unlike ends on the third floor only, of two floors that seem to come to one.
        count = 0
        for seed in range(400):
            house = made_house(2, 3, seed)
            if certain_floors(house) == 2:
                count += 1
                self.assertIs(is_fair(house), False)
                floor, three, one, other = paper(house)
                standing = on_floor(house, floor, three)
                ends = run(house, standing, one), run(house, standing, other)
                self.assertEqual(ends[0][:2], ends[1][:2])
                self.assertNotEqual(ends[0][2], ends[1][2])
        self.assertGreater(count, 20)


class Papers(unittest.TestCase):
    def test_the_least_of_all(self):
        for house in houses():
            self.assertEqual(paper(house), least_of_all_papers(house))

    def test_forms(self):
        for m, floors in SIZES[4:]:
            told = paper(made_house(m, floors, 5))
            if told is None:
                continue
            self.assertIs(type(told), tuple)
            self.assertEqual([type(part) for part in told], [int, tuple, list, list])
            self.assertTrue(all(type(meeting) is tuple for part in told[2:] for meeting in part))

    def test_the_told_lists_are_the_askers_own(self):
        house = (ROUND, ALL_ONE)
        told = paper(house)
        kept = copy.deepcopy(told)
        self.assertIsNot(told[2], told[3])
        told[2].clear()
        told[3].append(None)
        self.assertEqual(paper(house), kept)
        kinds = floor_kinds(house)
        kinds.clear()
        self.assertEqual(floor_kinds(house), ["falls", "stands"])


class IsPaper(unittest.TestCase):
    def unfair(self):
        told = [house for m, floors in SIZES for house in (made_house(m, floors, 6), made_house(m, floors, 7))]
        return [house for house in told if paper(house) is not None]

    def test_each_two_runs_of_each_three(self):
        seen = {True: 0, False: 0}
        for house in self.unfair():
            if len(house[0][0]) > 4:
                continue
            for floor in range(len(house)):
                for three in all_threes(house):
                    found = runs_of(house, on_floor(house, floor, three))
                    for (one, end), (other, unlike) in itertools.product(found, found):
                        told = is_paper(house, (floor, three, one, other))
                        self.assertIs(told, end != unlike)
                        seen[told] += 1
        self.assertGreater(min(seen.values()), 1000)

    def test_what_is_told_is_one(self):
        for house in self.unfair():
            floor, three, one, other = paper(house)
            self.assertIs(is_paper(house, (floor, three, one, other)), True)
            self.assertIs(is_paper(house, (floor, three, other, one)), True)
            self.assertIs(is_paper(house, (floor, three, one, one)), False)

    def test_what_is_nearly_one(self):
        for house in self.unfair():
            m, floors = len(house[0][0]), len(house)
            floor, three, one, other = paper(house)
            near = [
                (floor, three, one), (floor, three, one, other, one), [floor, three, one, other], (three, one, other),
                (floor, list(three), one, other), (floor, three[:2], one, other), (floor, three + three[:1], one, other),
                (floor, three, tuple(one), other), (floor, three, one, tuple(other)), (floor, three, (one, other), ()),
                (floor, three, one[:-1], other), (floor, three, one, other[:-1]), (floor, three, one[1:], other),
                (floor, three, [], other), (floor, three, one, []), (floor, three, one + one[-1:], other),
                (floor, three, one + [(floor, three[0], three[0])], other), (floor, three, one, other + [None]),
                (floor, three, [list(meeting) for meeting in one], other),
                (floor, three, one, [meeting[::-1] for meeting in other] if floor != other[0][2] else None),
                (floors, three, one, other), (-1, three, one, other), (floor + 4, three, one, other),
                (floor, (three[0], three[1], m), one, other), (floor, (-1,) + three[1:], one, other),
                (str(floor), three, one, other), (HUGE, three, one, other), (None, three, one, other),
            ]
            if three[0] < three[2]:
                near.append((floor, three[::-1], one, other))
                near.append((floor, (three[0],) * 3, one, other))
            if floor < 2:
                near.append((bool(floor), three, one, other))
            for at in range(3):
                if three[at] < 2:
                    near.append((floor, three[:at] + (bool(three[at]),) + three[at + 1:], one, other))
            for thing in near:
                self.assertIs(is_paper(house, thing), False, thing)

    def test_papers_of_other_houses(self):
        for house in self.unfair():
            told = paper(house)
            for other in sure_houses()[:48:5] + leaning_houses()[::9]:
                self.assertIs(is_paper(other, told), False)

    def test_things_of_any_kind(self):
        for house in (SORTER, (ROUND,), (ROUND, ALL_ONE), made_house(6, 4)):
            for thing in other_kinds():
                self.assertIs(is_paper(house, thing), False)
        floor, three, one, other = paper((ROUND, ALL_ONE))
        for thing in other_kinds():
            for near in ((thing, three, one, other), (floor, thing, one, other), (floor, three, thing, other),
                         (floor, three, one, thing), (floor, three, [thing] + one[1:], other),
                         (floor, three, one, other[:2] + [thing]), (floor, (0, 0, thing), one, other)):
                if near != (floor, three, one, other) or isinstance(thing, bool):
                    self.assertIs(is_paper((ROUND, ALL_ONE), near), False)

    def test_what_is_handed_in_stays(self):
        house = (ROUND, ALL_ONE)
        for thing in (paper(house), (0, (0, 0, 1), [[0, 0, 1]], [None]), [[1], {}], (0, [0, 0, 1], [], [])):
            kept = copy.deepcopy(thing)
            is_paper(house, thing)
            self.assertEqual(thing, kept)


class Floors(unittest.TestCase):
    def test_written_out(self):
        self.assertEqual(floor_kinds(SORTER), ["stands", "stands"])
        self.assertEqual(floor_kinds((ROUND, ALL_ONE)), ["falls", "stands"])
        self.assertEqual(floor_kinds((ALL_ONE, ROUND)), ["stands", "falls"])
        # Of 0, 0 and 1 the heaps 0, 0 and 0, 1 go up: by itself this doesn't stand, but whatever
        # goes up, floor 1 makes one of it.
        lean = (((0, 0), (0, 0)), ((0, 0), (0, 1)))
        self.assertEqual(floor_kinds((lean, ALL_ONE)), ["leans", "stands"])
        # Out of the house nobody has a number.
        self.assertEqual(floor_kinds((lean,)), ["leans"])
        self.assertEqual(floor_kinds((lean, SORTER[0])), ["falls", "stands"])

    def test_kinds_of_all_houses(self):
        seen = set()
        for house in houses():
            told = floor_kinds(house)
            self.assertEqual(told, [kind_by_people(house, floor) for floor in range(len(house))])
            self.assertIs(type(told), list)
            self.assertIs("falls" not in told, is_fair(house))
            seen |= {(floor, kind) for floor, kind in enumerate(told)}
        self.assertEqual(len(seen), 12)

    def test_certain_floors(self):
        seen = set()
        for house in houses():
            told = certain_floors(house)
            self.assertIs(type(told), int)
            self.assertEqual(told, certain_by_threes(house))
            self.assertIs(told == len(house), is_fair(house))
            seen.add((told, len(house)))
        self.assertEqual(seen, {(k, floors) for floors in range(1, 5) for k in range(floors + 1)})

    def test_certain_floors_of_any_people(self):
        for at, house in enumerate(houses()):
            if len(house[0][0]) < 4:
                certain = certain_floors(house)
                found = counted_ways(house, made_standing(house, 6, at))
                self.assertEqual(len({end[:certain] for end in found}), 1)

    def test_certain_floors_written_out(self):
        self.assertEqual(certain_floors(SORTER), 2)
        self.assertEqual(certain_floors((ROUND, ALL_ONE)), 0)
        self.assertEqual(certain_floors((ALL_ONE, ROUND)), 1)
        self.assertEqual(certain_floors((ALL_ONE, ALL_ONE, ROUND, ALL_ONE)), 2)


class Soon(unittest.TestCase):
    def test_the_greatest_houses(self):
        # Ten times what is due, so that a slow machine passes.
        for house in (made_house(6, 4), sure_houses()[-1], sure_houses()[71], leaning_houses()[44]):
            for call in (is_fair, paper, floor_kinds, certain_floors, lambda h: is_paper(h, paper(h))):
                start = time.perf_counter()
                call(house)
                self.assertLess(time.perf_counter() - start, 1)

    def test_papers_lead_to_rest(self):
        for m, floors in SIZES[4:]:
            house = made_house(m, floors, 8)
            if not is_fair(house):
                floor, three, one, other = paper(house)
                for row in (one, other):
                    self.assertTrue(is_rest(house, run(house, on_floor(house, floor, three), row)))


if __name__ == "__main__":
    unittest.main()
