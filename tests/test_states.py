"""[13] and [3]: states that come, by how few, in how many ways, and in what rounds."""

import copy
import itertools
import math
import random
import time
import unittest

from floormeet.ends import end_of
from floormeet.errors import NoCompany, NoHouse, NoNumber, NoState, NotFair
from floormeet.fair import paper
from floormeet.standings import standing_of, together
from floormeet.states import counted, least_company, round_of, states
from tests.makers import (
    HUGE, SORTER, all_states, behind_late, companies_of, counting_floor, fair_houses, leaning_houses, least_lists,
    numbers_of, other_kinds, plain_floor, ranked, sorting_floor, state_behind, state_of, sure_houses, unfair_houses,
    walked_houses,
)

NO_HOUSES = other_kinds() + [list(SORTER), SORTER[0], (SORTER,), SORTER * 3]
COUNTER = (counting_floor(3),) * 2
CALLS = {
    "states": lambda house, *rest: states(house),
    "least_company": lambda house, *rest: least_company(house, *rest),
    "counted": lambda house, *rest: counted(house, 3, *rest),
    "counted_first": lambda house, *rest: counted(house, *rest, (None, None)),
    "round_of": lambda house, *rest: round_of(house, *rest),
}


def no_states(house):
    """What is no state of the house."""
    m, floors = len(house[0][0]), len(house)
    right = (0,) * floors
    told = [right + (0,), right[1:], right + (None,), list(right), (right,), str(right), set(right), {right: 0}]
    for at in range(floors):
        for number in (m, m + 1, -1, HUGE, -HUGE, True, False, "0", "", (), (0,), [0], b"0", len):
            told.append(right[:at] + (number,) + right[at + 1:])
    return told + [thing for thing in other_kinds() if thing not in ((0,), (None,), (0, 0), (0, 0, 0))]


def few_houses():
    """Fair houses of all sizes, few enough to go through each one person by person."""
    few = [house for house in fair_houses() if len(house) < 4 or len(house[0][0]) < 5]
    return few[::4] + [(sorting_floor(m),) * 4 for m in (4, 5)]


class Refusals(unittest.TestCase):
    def test_no_house_first(self):
        for call in CALLS.values():
            for thing in NO_HOUSES:
                for other in ((0, 0), None, thing):
                    with self.assertRaises(NoHouse):
                        call(thing, other)

    def test_not_fair_next(self):
        for call in CALLS.values():
            for house in unfair_houses():
                for thing in [(0,) * len(house)] + no_states(house)[:9] + other_kinds():
                    with self.assertRaises(NotFair) as caught:
                        call(house, thing)
                    self.assertEqual(caught.exception.paper, paper(house))

    def test_no_state(self):
        for house in fair_houses()[::20]:
            for thing in no_states(house):
                with self.assertRaises(NoState):
                    least_company(house, thing)
                for many in (0, 1, 60, 61, -1, True, None, "3", thing):
                    with self.assertRaises(NoState):
                        counted(house, many, thing)

    def test_no_number_behind_no_state(self):
        for house in fair_houses()[::20]:
            for many in [-1, 61, 62, HUGE, -HUGE, 10 ** 30, True, False, "1", None, [1], (1,)] + other_kinds():
                if type(many) is int and 0 <= many <= 60:
                    continue
                for state in ((None,) * len(house), (0,) * len(house)):
                    with self.assertRaises(NoNumber):
                        counted(house, many, state)

    def test_no_company(self):
        for house in fair_houses()[::20]:
            m = len(house[0][0])
            right = (1,) * m
            wrong = [right + (0,), right[1:], list(right), (HUGE + 1,) + right[1:], (-1,) + right[1:]]
            wrong += [(True,) + right[1:], (None,) + right[1:], ("1",) + right[1:]]
            wrong += [thing for thing in other_kinds() if not (isinstance(thing, tuple) and len(thing) == m)]
            for thing in wrong:
                with self.assertRaises(NoCompany):
                    round_of(house, thing)


class States(unittest.TestCase):
    def test_written_out(self):
        self.assertEqual(states(SORTER), [(None, None), (0, None), (0, 0), (1, None), (1, 0), (1, 1)])
        self.assertEqual(states((plain_floor(1, 0, 0),)), [(None,), (0,)])
        self.assertEqual(states((plain_floor(2, 1, 0),)), [(None,), (0,), (1,)])

    def test_late_comers_one_by_one(self):
        for house in few_houses():
            m, floors = len(house[0][0]), len(house)
            found = {(None,) * floors}
            waiting = list(found)
            while waiting:
                here = waiting.pop()
                for number in range(m):
                    after = behind_late(house, here, (0, number))
                    if after not in found:
                        found.add(after)
                        waiting.append(after)
            told = states(house)
            self.assertIs(type(told), list)
            self.assertTrue(all(type(state) is tuple for state in told))
            self.assertEqual(told, sorted(found, key=ranked))

    def test_ends_of_companies_have_them(self):
        chance = random.Random(1)
        for house in fair_houses():
            told = states(house)
            self.assertEqual(told, sorted(set(told), key=ranked))
            for _ in range(5):
                company = tuple(chance.choice((0, 1, 5, 70, HUGE)) for _ in range(len(house[0][0])))
                self.assertIn(state_of(end_of(house, standing_of(house, company))), told)

    def test_all_figures_of_a_counter(self):
        for m in range(2, 7):
            for floors in range(1, 5):
                told = states((counting_floor(m),) * floors)
                full = [state for state in told if None not in state]
                self.assertEqual(len(full), m ** floors)


class LeastCompany(unittest.TestCase):
    def test_written_out(self):
        self.assertEqual(least_company(SORTER, (1, 0)), (1, 1))
        self.assertEqual(least_company(SORTER, (1, 1)), (0, 2))
        self.assertIs(least_company(SORTER, (0, 1)), None)
        self.assertIs(least_company(SORTER, (None, 0)), None)
        # Their sum is 7, which three people don't come to; two people at least, though their sum is 0.
        self.assertEqual(least_company(COUNTER, (1, 2)), (0, 1, 3))
        self.assertEqual(least_company(COUNTER, (0, 0)), (2, 0, 0))

    def test_against_all_companies_of_few_people(self):
        for house in few_houses():
            m, floors = len(house[0][0]), len(house)
            first = {}
            for many in range(5 if m < 5 else 4):
                for company in companies_of(m, many):
                    first.setdefault(state_behind(house, company), company)
            self.assertEqual(least_company(house, (None,) * floors), (0,) * m)
            every = all_states(house)
            for state in every if len(every) < 50 else every[::len(every) // 50] + list(first)[::3]:
                told = least_company(house, state)
                if state in first:
                    self.assertEqual(told, first[state])
                elif told is not None:
                    self.assertGreater(sum(told), 4 if m < 5 else 3)

    def test_of_more_people_too(self):
        chance = random.Random(2)
        for house in few_houses()[::2]:
            m, floors = len(house[0][0]), len(house)
            least = least_lists(house, (None,) * floors)
            self.assertEqual(sorted(least, key=ranked), states(house))
            for state in chance.sample(all_states(house), min(40, (m + 1) ** floors)):
                told = least_company(house, state)
                if state in least:
                    self.assertEqual(numbers_of(told), least[state])
                    self.assertEqual(state_of(end_of(house, standing_of(house, told))), state)
                else:
                    self.assertIs(told, None)

    def test_many_people(self):
        for m in range(2, 7):
            for floors in range(1, 5):
                # So many with the greatest figure, and one with the rest, as a counter's sum is the state.
                house = (counting_floor(m),) * floors
                state = (m - 1,) * floors
                told = least_company(house, state)
                self.assertEqual(sum(n * many for n, many in enumerate(told)), m ** floors - 1)
                self.assertEqual(sum(told), max(floors, -(-(m ** floors - 1) // (m - 1))))


class Counted(unittest.TestCase):
    def test_written_out(self):
        self.assertEqual([counted(SORTER, 2, state) for state in states(SORTER)], [0, 0, 1, 0, 1, 1])
        self.assertEqual([counted(SORTER, 60, state) for state in states(SORTER)], [0, 0, 1, 0, 1, 59])
        self.assertEqual(counted(SORTER, 60, (0, 1)), 0)
        self.assertEqual(counted(SORTER, 0, (None, None)), 1)
        self.assertEqual(counted(SORTER, 1, (None, None)), 0)

    def test_against_all_companies(self):
        for house in few_houses()[::2]:
            m, floors = len(house[0][0]), len(house)
            for many in range(6 if m < 4 else 4):
                found = {}
                for company in companies_of(m, many):
                    state = state_behind(house, company)
                    found[state] = found.get(state, 0) + 1
                every = all_states(house)
                for state in every if len(every) < 30 else every[::len(every) // 30] + list(found)[::2]:
                    self.assertEqual(counted(house, many, state), found.get(state, 0))

    def test_sums_up_to_sixty(self):
        for house in sure_houses()[::5] + leaning_houses()[::5] + walked_houses()[::5]:
            m = len(house[0][0])
            every = states(house)
            if len(every) < 100:
                for many in (0, 1, 2, 5, 17, 59, 60):
                    told = [counted(house, many, state) for state in every]
                    self.assertEqual(sum(told), math.comb(many + m - 1, m - 1))
                    self.assertTrue(all(type(number) is int for number in told))

    def test_sixty_of_two_and_three_numbers(self):
        houses = [house for house in fair_houses(3) if len(house) > 1]
        for house in houses[::7]:
            m = len(house[0][0])
            for many in (60, 23):
                found = {}
                for company in companies_of(m, many):
                    state = state_of(end_of(house, standing_of(house, company)))
                    found[state] = found.get(state, 0) + 1
                for state in all_states(house)[::2]:
                    self.assertEqual(counted(house, many, state), found.get(state, 0))

    def test_what_never_comes(self):
        for house in fair_houses()[::15]:
            never = [state for state in all_states(house) if least_company(house, state) is None] \
                if len(house) < 3 else [(None,) * (len(house) - 1) + (0,)]
            for state in never[::5]:
                for many in (0, 1, 3, 60):
                    self.assertEqual(counted(house, many, state), 0)


class RoundOf(unittest.TestCase):
    def test_written_out(self):
        self.assertEqual(round_of(SORTER, (0, 0)), (0, 1))
        self.assertEqual(round_of(SORTER, (1, 0)), (2, 1))
        self.assertEqual(round_of(SORTER, (1, 1)), (2, 1))
        self.assertEqual(round_of(SORTER, (0, 2)), (1, 1))
        self.assertEqual(round_of(SORTER, (HUGE, HUGE)), (1, 1))
        self.assertEqual(round_of(COUNTER, (0, 1, 0)), (2, 9))
        self.assertEqual(round_of(COUNTER, (0, 3, 0)), (1, 3))
        self.assertEqual(round_of(COUNTER, (0, 1, 1)), (1, 3))
        self.assertEqual(round_of(COUNTER, (0, HUGE, 0)), (1, 9))

    def test_company_behind_company(self):
        chance = random.Random(3)
        for house in fair_houses():
            m, floors = len(house[0][0]), len(house)
            self.assertEqual(round_of(house, (0,) * m), (0, 1))
            for counts in ((0, 1), (0, 1, 2, 9), (1, HUGE, HUGE - 1), (0, 0, 0, 1)):
                company = tuple(chance.choice(counts) for _ in range(m))
                more = end_of(house, standing_of(house, company))
                here = ((0,) * m,) * floors + (0,)
                seen = []
                while state_of(here) not in seen:
                    seen.append(state_of(here))
                    here = end_of(house, together(house, here, more))
                first = seen.index(state_of(here))
                self.assertEqual(round_of(house, company), (first, len(seen) - first))

    def test_companies_so_many_times(self):
        chance = random.Random(4)
        for house in fair_houses()[::3]:
            m, floors = len(house[0][0]), len(house)
            company = tuple(chance.choice((0, 1, 2, HUGE)) for _ in range(m))
            first, length = round_of(house, company)

            def times(many):
                rows = (tuple(many * count for count in company),) + ((0,) * m,) * (floors - 1)
                return state_of(end_of(house, rows + (0,)))

            self.assertEqual(times(first), times(first + length))
            if first:
                self.assertNotEqual(times(first - 1), times(first - 1 + length))
            for fewer in range(1, min(length, 40)):
                self.assertNotEqual(times(first), times(first + fewer))

    def test_long_rounds(self):
        for m in range(2, 7):
            for floors in range(1, 5):
                house = (counting_floor(m),) * floors
                one = (0, 1) + (0,) * (m - 2)
                self.assertEqual(round_of(house, one), (floors, m ** floors))


class AskersOwn(unittest.TestCase):
    def test_the_told_list_is_the_askers_own(self):
        for house in (SORTER, COUNTER):
            told = states(house)
            kept = copy.deepcopy(told)
            told.clear()
            told.append(None)
            self.assertEqual(states(house), kept)
            self.assertIsNot(states(house), states(house))
            self.assertEqual(least_company(house, kept[1]), (1,) + (0,) * (len(house[0][0]) - 1))

    def test_what_is_handed_in_stays(self):
        wrong = [[0, [1]], {"a": [1]}, [None, None]]
        kept = copy.deepcopy((SORTER, wrong))
        for thing in wrong:
            for call in list(CALLS.values())[1:]:
                with self.assertRaises(ValueError):
                    call(SORTER, thing)
        self.assertEqual((SORTER, wrong), kept)


class Soon(unittest.TestCase):
    def test_the_greatest_houses(self):
        # Several times what is due, so that a slow machine passes.
        greatest = [house for house in fair_houses() if len(house) == 4 and len(house[0][0]) == 6]
        for house in greatest[:8]:
            state = states(house)[-1]
            for call in (
                lambda: states(house), lambda: least_company(house, state), lambda: counted(house, 60, state),
                lambda: round_of(house, (HUGE, 1, 0, 0, 0, 1)), lambda: least_company(house, (None,) * 3 + (0,)),
            ):
                start = time.perf_counter()
                call()
                self.assertLess(time.perf_counter() - start, 2)

    def test_lesser_houses(self):
        for house in sure_houses() + leaning_houses():
            m, floors = len(house[0][0]), len(house)
            if floors < 4 or m < 5:
                state = states(house)[-1]
                for many in itertools.chain((0, 1), (60,)):
                    start = time.perf_counter()
                    counted(house, many, state)
                    least_company(house, state)
                    round_of(house, (1,) * m)
                    self.assertLess(time.perf_counter() - start, 1)


if __name__ == "__main__":
    unittest.main()
