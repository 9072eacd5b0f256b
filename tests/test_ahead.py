"""[14]: what was ahead of a state, and by whom one state leads to another."""

import copy
import random
import time
import unittest

from floormeet.ahead import ahead_of, between
from floormeet.ends import end_of
from floormeet.errors import NoHouse, NoNumber, NoState, NotFair
from floormeet.fair import paper
from floormeet.standings import standing_of, together
from floormeet.states import least_company, states
from tests.makers import (
    HUGE, SORTER, all_states, behind_late, counting_floor, fair_houses, least_lists, numbers_of, other_kinds,
    plain_floor, resting_in, state_of, unfair_houses,
)
from tests.test_states import NO_HOUSES, no_states

COUNTER = (counting_floor(3),) * 2


def some_houses():
    """Fair houses of all sizes, few enough to try every state."""
    few = [house for house in fair_houses() if len(house) < 3 or len(house[0][0]) < 4]
    return few[::2] + [house for house in fair_houses() if house not in few][::12]


class Refusals(unittest.TestCase):
    def test_no_house_first(self):
        for thing in NO_HOUSES:
            for other in ((0, 0), None, thing):
                for call in (ahead_of, between):
                    with self.assertRaises(NoHouse):
                        call(thing, other, other)

    def test_not_fair_next(self):
        for house in unfair_houses():
            for thing in [(0,) * len(house)] + no_states(house)[:9] + other_kinds():
                for call in (ahead_of, between):
                    for last in (0, (0,) * len(house), thing):
                        with self.assertRaises(NotFair) as caught:
                            call(house, thing, last)
                        self.assertEqual(caught.exception.paper, paper(house))

    def test_no_state(self):
        for house in fair_houses()[::25]:
            right = (0,) * len(house)
            for thing in no_states(house):
                for number in (0, -1, None, thing):
                    with self.assertRaises(NoState):
                        ahead_of(house, thing, number)
                for one, other in ((thing, right), (right, thing), (thing, thing)):
                    with self.assertRaises(NoState):
                        between(house, one, other)

    def test_no_number_behind_no_state(self):
        for house in fair_houses()[::25]:
            m = len(house[0][0])
            wrong = [m, m + 1, 6, -1, HUGE, -HUGE, True, False, None, "0", (0,), [0]]
            for thing in wrong + [thing for thing in other_kinds() if type(thing) is not int]:
                for state in ((None,) * len(house), (0,) * len(house)):
                    with self.assertRaises(NoNumber):
                        ahead_of(house, state, thing)


class AheadOf(unittest.TestCase):
    def test_written_out(self):
        self.assertEqual(ahead_of(SORTER, (0, None), 0), [(None, None)])
        self.assertEqual(ahead_of(SORTER, (0, 0), 0), [(None, 0), (0, None), (0, 0)])
        self.assertEqual(ahead_of(SORTER, (1, 0), 1), [(None, 0), (0, None), (0, 0)])
        self.assertEqual(ahead_of(SORTER, (0, 1), 0), [(None, 1), (0, 1)])
        self.assertEqual(ahead_of(SORTER, (0, 1), 1), [])
        self.assertEqual(ahead_of(COUNTER, (None, 0), 0), [])

    def test_against_trying_every_state(self):
        for at, house in enumerate(some_houses()):
            m = len(house[0][0])
            every = all_states(house)
            number = at % m
            due = {}
            for state in every:
                due.setdefault(behind_late(house, state, (0, number)), []).append(state)
            for state in every[::1 + len(every) // 40] + list(due)[::1 + len(due) // 20]:
                told = ahead_of(house, state, number)
                self.assertIs(type(told), list)
                self.assertEqual(told, due.get(state, []))

    def test_states_that_never_come_are_told_too(self):
        for house in (SORTER, COUNTER, (plain_floor(4, 2, 1),) * 3):
            coming = states(house)
            told = [ahead for state in all_states(house) for ahead in ahead_of(house, state, 0)]
            self.assertEqual(sorted(told, key=str), sorted(all_states(house), key=str))
            self.assertTrue([state for state in told if state not in coming])


class Between(unittest.TestCase):
    def test_written_out(self):
        self.assertEqual(between(SORTER, (None, None), (1, 1)), (0, 2))
        self.assertEqual(between(SORTER, (None, 1), (0, 1)), (1, 0))
        self.assertEqual(between(SORTER, (0, 0), (1, 0)), (0, 1))
        self.assertIs(between(SORTER, (1, 1), (1, 0)), None)
        self.assertIs(between(SORTER, (0, 1), (None, 1)), None)
        self.assertEqual(between(COUNTER, (1, 2), (0, 1)), (0, 1, 2))

    def test_from_a_state_to_itself(self):
        for house in fair_houses()[::6]:
            for state in all_states(house)[::7]:
                self.assertEqual(between(house, state, state), (0,) * len(house[0][0]))

    def test_from_nobody_it_is_the_least_company(self):
        for house in fair_houses()[::9]:
            for state in all_states(house)[::17]:
                self.assertEqual(between(house, (None,) * len(house), state), least_company(house, state))

    def test_going_on_from_state_to_state(self):
        chance = random.Random(5)
        for house in some_houses():
            every = all_states(house)
            one = chance.choice(every)
            least = least_lists(house, one)
            for other in chance.sample(every, min(len(every), 25)) + list(least)[::1 + len(least) // 15]:
                told = between(house, one, other)
                if other in least:
                    self.assertEqual(numbers_of(told), least[other])
                    standing = tuple(map(tuple, resting_in(house, one))) + (0,)
                    both = together(house, standing, standing_of(house, told))
                    self.assertEqual(state_of(end_of(house, both)), other)
                else:
                    self.assertIs(told, None)


class AskersOwn(unittest.TestCase):
    def test_the_told_list_is_the_askers_own(self):
        told = ahead_of(SORTER, (0, 0), 0)
        kept = copy.deepcopy(told)
        told.clear()
        self.assertEqual(ahead_of(SORTER, (0, 0), 0), kept)
        self.assertIsNot(ahead_of(SORTER, (0, 1), 1), ahead_of(SORTER, (0, 1), 1))

    def test_what_is_handed_in_stays(self):
        things = ([0, 0], [[0]], {"a": [1]})
        kept = copy.deepcopy((SORTER, things))
        for thing in things:
            for call in (ahead_of, between):
                with self.assertRaises(NoState):
                    call(SORTER, thing, thing)
        self.assertEqual((SORTER, things), kept)


class Soon(unittest.TestCase):
    def test_the_greatest_houses(self):
        for house in [house for house in fair_houses() if len(house) == 4 and len(house[0][0]) == 6][:12]:
            state = states(house)[-1]
            for call in (
                lambda: ahead_of(house, state, 5), lambda: between(house, (None,) * 3 + (5,), state),
                lambda: between(house, state, (None,) * 4),
            ):
                start = time.perf_counter()
                call()
                self.assertLess(time.perf_counter() - start, 2)


if __name__ == "__main__":
    unittest.main()
