"""[18] and [19]: parties of named people, and parties made of a log."""

import copy
import itertools
import random
import time
import unittest

from floormeet.errors import Full, MeetError, NoFloor, NoHouse, NoLog, NoMeeting, NoName, NoNumber, Nothing, Taken
from floormeet.party import Party, party_of
from floormeet.standings import is_rest
from tests.makers import HUGE, SORTER, counting_floor, made_house, other_kinds, plain_floor, sorting_floor
from tests.test_states import NO_HOUSES

COUNTER = (counting_floor(3),) * 2
NO_NAMES = [thing for thing in other_kinds() if thing != "stay"] + [
    "A", "Ann", "ann ", " ann", "a b", "ann1", "anninabox", "anninaboxes", "a-b", "a\n", "\n", "0", "-", "a;b", "`", "{",
    "ab" * 2500, ("ann",), ["ann"], b"ann", {"ann"},
]


def names(many):
    """So many names, not in any order of letters."""
    letters = "qwertyuiopasdfghjklzxcvbnm"
    return [a + b for b in letters for a in letters][:many]


class Peer:
    """A party gone through by hand: people as rows [name, floor, number], things done kept whole."""

    def __init__(self, house):
        self.house = house
        self.people = []
        self.rows = []
        self.past = []

    def keep(self):
        self.past.append(copy.deepcopy((self.people, self.rows)))

    def come(self, name, number, floor):
        self.keep()
        self.people.append([name, floor, number])
        self.rows.append(("come", name, number, floor))

    def find(self, name):
        return [row for row in self.people if row[0] == name][0]

    def pass_by(self, name, other):
        low, high = sorted((self.find(name), self.find(other)))
        floor = low[1]
        stay, up = self.house[floor]
        low[2], high[2], high[1] = stay[low[2]][high[2]], up[low[2]][high[2]], floor + 1
        self.rows.append(("meet", low[0], high[0]))
        return low[2], high[2]

    def meet(self, name, other):
        self.keep()
        return self.pass_by(name, other)

    def twos(self):
        """All twos who could meet, those on the lowest floor ahead, the least names ahead."""
        return sorted((floor, one[0], other[0]) for floor in range(len(self.house))
                      for one, other in itertools.combinations(sorted(self.people), 2) if one[1] == other[1] == floor)

    def settle(self):
        self.keep()
        told = []
        while self.twos():
            _, name, other = self.twos()[0]
            self.pass_by(name, other)
            told.append((name, other))
        return told

    def back(self):
        self.people, self.rows = self.past.pop()

    def standing(self):
        m, floors = len(self.house[0][0]), len(self.house)
        return tuple(
            tuple(sum(row[1:] == [floor, number] for row in self.people) for number in range(m))
            for floor in range(floors)) + (sum(row[1] == floors for row in self.people),)

    def rest_names(self, chance):
        """Who is at rest in the end, in an order left to chance."""
        kept = copy.deepcopy((self.people, self.rows))
        while self.twos():
            self.pass_by(*chance.choice(self.twos())[1:])
        told = [None] * len(self.house)
        for name, floor, _ in self.people:
            if floor < len(self.house):
                told[floor] = name
        self.people, self.rows = kept
        return told


def all_told(party):
    """All that a party tells, beside where one is who isn't there."""
    log = party.log()
    people = sorted({row[1] for row in log if row[0] == "come"})
    return (log, [party.where(name) for name in people], party.standing(), party.rest_names(), len(party))


def played(house, things, seed):
    """A party and its peer to which so many things were done, by chance."""
    chance = random.Random(seed)
    party, peer = Party(house), Peer(house)
    for _ in range(things):
        do_by_chance(party, peer, chance)
    return party, peer


def do_by_chance(party, peer, chance):
    """Do the same to both; tell what both told."""
    floors, m = len(peer.house), len(peer.house[0][0])
    what = chance.choice(("come", "come", "come", "meet", "meet", "settle", "back"))
    if what == "settle" and chance.randrange(3):
        what = "come"
    told = due = None
    if what == "come" and len(peer.people) < 60:
        name = chance.choice([name for name in names(200) if name not in [row[0] for row in peer.people]])
        number, floor = chance.randrange(m), chance.randrange(floors)
        if chance.randrange(2):
            told, due = party.come(name, number, floor=floor), peer.come(name, number, floor)
        else:
            told, due = party.come(name, number), peer.come(name, number, 0)
    elif what == "meet" and peer.twos():
        two = list(chance.choice(peer.twos())[1:])
        chance.shuffle(two)
        told, due = party.meet(*two), peer.meet(*two)
    elif what == "settle":
        told, due = party.settle(), peer.settle()
    elif what == "back" and peer.past:
        told, due = party.back(), peer.back()
    return told, due


class ByHand(unittest.TestCase):
    def test_written_out(self):
        party = Party(SORTER)
        self.assertEqual(len(party), 0)
        self.assertIs(party.come("cat", 1), None)
        self.assertIs(party.come("bob", 0, floor=1), None)
        self.assertIs(party.come("ann", 0, floor=0), None)
        self.assertEqual(party.where("bob"), (1, 0))
        self.assertEqual(party.standing(), ((1, 1), (1, 0), 0))
        self.assertEqual(party.rest_names(), ["ann", "bob"])
        self.assertEqual(party.meet("cat", "ann"), (1, 0))
        self.assertEqual(party.where("ann"), (0, 1))
        self.assertEqual(party.where("cat"), (1, 0))
        self.assertEqual(party.standing(), ((0, 1), (2, 0), 0))
        self.assertEqual(party.settle(), [("bob", "cat")])
        self.assertEqual(party.where("cat"), (2, 0))
        self.assertEqual(party.standing(), ((0, 1), (1, 0), 1))
        self.assertEqual(len(party), 2)
        self.assertEqual(party.log(), [
            ("come", "cat", 1, 0), ("come", "bob", 0, 1), ("come", "ann", 0, 0), ("meet", "ann", "cat"),
            ("meet", "bob", "cat")])
        self.assertEqual(party.settle(), [])
        self.assertIs(party.back(), None)
        self.assertEqual(party.where("cat"), (2, 0))
        party.back()
        self.assertEqual(party.where("cat"), (1, 0))
        party.back()
        self.assertEqual(party.where("cat"), (0, 1))
        party.back()
        with self.assertRaises(NoName):
            party.where("ann")
        self.assertEqual(party.rest_names(), ["cat", "bob"])
        party.come("ann", 1, floor=1)
        self.assertEqual(party.rest_names(), ["cat", "ann"])
        self.assertEqual(party.log()[2:], [("come", "ann", 1, 1)])

    def test_the_least_two_on_the_lowest_floor(self):
        party = Party(COUNTER)
        for name, number, floor in (("d", 2, 0), ("b", 2, 0), ("c", 2, 0), ("a", 1, 1), ("e", 2, 1), ("aa", 0, 0)):
            party.come(name, number, floor=floor)
        self.assertEqual(party.rest_names(), ["aa", "a"])
        self.assertEqual(
            party.settle(),
            [("aa", "b"), ("aa", "c"), ("aa", "d"), ("a", "b"), ("a", "c"), ("a", "d"), ("a", "e")])
        self.assertEqual(party.standing(), ((1, 0, 0), (0, 0, 1), 4))
        self.assertEqual([party.where(name) for name in ("aa", "a", "b", "c", "d", "e")],
                         [(0, 0), (1, 2), (2, 0), (2, 0), (2, 1), (2, 0)])

    def test_things_done_by_chance(self):
        chance = random.Random(14)
        sizes = itertools.product((1, 2, 3, 6), (1, 2, 3, 4))
        for seed, (m, floors) in enumerate(sizes):
            for house in (made_house(m, floors), (sorting_floor(m),) * floors):
                party, peer = Party(house), Peer(house)
                for _ in range(60):
                    told, due = do_by_chance(party, peer, chance)
                    self.assertEqual(told, due)
                    self.assertEqual(party.log(), peer.rows)
                    self.assertEqual(party.standing(), peer.standing())
                    self.assertEqual(party.rest_names(), peer.rest_names(chance))
                    self.assertEqual(len(party), sum(row[1] < floors for row in peer.people))
                    for name, floor, number in peer.people:
                        self.assertEqual(party.where(name), (floor, number))

    def test_kinds_of_what_is_told(self):
        party, _ = played(SORTER, 30, 1)
        party.come("zzz", 0)
        party.come("zzzz", 0)
        self.assertIs(type(party.meet("zzz", "zzzz")), tuple)
        party.come("zzzzz", 0)
        told = party.settle()
        self.assertIs(type(told), list)
        self.assertTrue(told and all(type(two) is tuple for two in told))
        self.assertIs(type(party.log()), list)
        self.assertTrue(all(type(row) is tuple for row in party.log()))
        self.assertIs(type(party.rest_names()), list)
        self.assertIs(type(party.where("zzz")), tuple)
        self.assertIs(type(party.standing()), tuple)
        self.assertTrue(is_rest(SORTER, party.standing()))

    def test_who_will_rest_ahead_of_any_meeting_and_behind_all(self):
        chance = random.Random(15)
        for floors in range(1, 5):
            house = made_house(3, floors)
            for many in (0, 1, 2, 3, 4, 5, 9):
                party, peer = Party(house), Peer(house)
                for name in chance.sample(names(100), many):
                    floor = chance.randrange(floors)
                    party.come(name, 1, floor=floor)
                    peer.come(name, 1, floor)
                told = party.rest_names()
                for _ in range(4):
                    self.assertEqual(peer.rest_names(chance), told)
                party.settle()
                self.assertEqual(party.rest_names(), told)
                for floor, name in enumerate(told):
                    if name is not None:
                        self.assertEqual(party.where(name)[0], floor)


class Refusals(unittest.TestCase):
    def refused(self, party, refusal, call, *rest, **more):
        kept = all_told(party)
        with self.assertRaises(refusal) as caught:
            call(*rest, **more)
        self.assertEqual(all_told(party), kept)
        return caught.exception

    def test_no_house(self):
        for thing in NO_HOUSES:
            with self.assertRaises(NoHouse):
                Party(thing)

    def test_no_name(self):
        party, _ = played(SORTER, 20, 2)
        for thing in NO_NAMES:
            for number, floor in ((0, 0), (9, 0), (0, 9), (None, None)):
                self.refused(party, NoName, party.come, thing, number, floor=floor)
            self.refused(party, NoName, party.where, thing)
        self.refused(party, NoName, party.where, "nobody")
        for name in ("a", "z", "abcdefgh", "zzzzzzzz", "stay", "come"):
            party.come(name, 0)

    def test_taken_then(self):
        party = Party(SORTER)
        party.come("ann", 0)
        party.come("bob", 0)
        party.come("cat", 0)
        party.settle()
        self.assertEqual(party.where("cat"), (2, 0))
        for name in ("ann", "bob", "cat"):
            for number, floor in ((0, 0), (9, 0), (0, 9), (None, None)):
                self.refused(party, Taken, party.come, name, number, floor=floor)
        party.back()
        party.back()
        party.come("cat", 1)
        self.assertEqual(party.where("cat"), (0, 1))

    def test_no_number_then_no_floor(self):
        for house in (SORTER, COUNTER, (plain_floor(6, 1, 2),) * 4):
            m, floors = len(house[0][0]), len(house)
            party = Party(house)
            wrong = [m, m + 1, -1, HUGE, -HUGE] + [thing for thing in other_kinds() if type(thing) is not int]
            for thing in wrong:
                for floor in (0, floors, None, thing):
                    self.refused(party, NoNumber, party.come, "ann", thing, floor=floor)
                self.refused(party, NoNumber, party.come, "ann", thing)
            for thing in [floors, floors + 1, -1, HUGE, -HUGE] + wrong[5:]:
                self.refused(party, NoFloor, party.come, "ann", m - 1, floor=thing)
            party.come("ann", m - 1, floor=floors - 1)

    def test_full_last(self):
        party = Party(SORTER)
        for name in names(60):
            party.come(name, 0)
        self.assertEqual(len(party), 60)
        self.refused(party, Full, party.come, "sixtyone", 0)
        self.refused(party, NoName, party.come, "sixty one", 0)
        self.refused(party, Taken, party.come, names(1)[0], 0)
        self.refused(party, NoNumber, party.come, "sixtyone", 2)
        self.refused(party, NoFloor, party.come, "sixtyone", 0, floor=2)
        party.settle()
        self.assertEqual(len(party), 2)
        self.refused(party, Full, party.come, "sixtyone", 0)
        party.back()
        party.back()
        self.assertEqual(len(party), 59)
        party.come("sixtyone", 1, floor=1)
        self.refused(party, Full, party.come, names(60)[-1], 0)

    def test_no_meeting_made_of_the_first_thing(self):
        party = Party(SORTER)
        for name, floor in (("ann", 0), ("bob", 0), ("cat", 1), ("out", 1), ("past", 1)):
            party.come(name, 0, floor=floor)
        party.meet("cat", "out")
        party.meet("past", "cat")
        wrong = [("ann", "cat"), ("cat", "ann"), ("ann", "ann"), ("ann", "out"), ("out", "past"), ("past", "out"),
                 ("ann", "nobody"), ("nobody", "ann"), ("nobody", "nobody"), ("out", "out"), ("cat", "out")]
        for thing in NO_NAMES:
            wrong += [(thing, "ann"), ("ann", thing), (thing, thing), (thing, None)]
        for one, other in wrong:
            self.assertIs(self.refused(party, NoMeeting, party.meet, one, other).at, one)
        self.assertEqual(party.meet("bob", "ann"), (0, 0))

    def test_nothing(self):
        party = Party(SORTER)
        self.refused(party, Nothing, party.back)
        party.settle()
        party.back()
        self.refused(party, Nothing, party.back)
        party.come("ann", 0)
        party.back()
        self.refused(party, Nothing, party.back)

    def test_what_is_refused_is_no_thing_done(self):
        party = Party(SORTER)
        party.come("ann", 0)
        for call in (
            lambda: party.come("ann", 0), lambda: party.come("Bob", 0), lambda: party.meet("ann", "ann"),
            lambda: party.where("bob"), lambda: party.come("bob", 2),
        ):
            with self.assertRaises(MeetError):
                call()
        party.standing(), party.rest_names(), party.log(), len(party), party.where("ann")
        party.back()
        self.assertEqual(party.log(), [])
        with self.assertRaises(Nothing):
            party.back()


class Back(unittest.TestCase):
    def test_back_to_nobody_thing_by_thing(self):
        for seed in range(6):
            house = made_house(3, 1 + seed % 4)
            party, peer = Party(house), Peer(house)
            chance = random.Random(seed)
            for _ in range(200):
                do_by_chance(party, peer, chance)
            told = []
            while peer.past:
                party.back()
                peer.back()
                self.assertEqual(party.log(), peer.rows)
                self.assertEqual(party.standing(), peer.standing())
                told.append(len(party))
            self.assertGreater(len(told), 10)
            with self.assertRaises(Nothing):
                party.back()
            self.assertEqual(all_told(party), all_told(Party(house)))

    def test_a_settling_is_taken_back_whole(self):
        party = Party((sorting_floor(3),) * 4)
        for name in names(60):
            party.come(name, len(name) % 3)
        kept = all_told(party)
        self.assertEqual(len(party.settle()), 59 + 58 + 57 + 56)
        self.assertEqual(len(party), 4)
        party.back()
        self.assertEqual(all_told(party), kept)


class PartyOf(unittest.TestCase):
    def test_it_tells_all_as_the_party(self):
        for seed in range(12):
            house = made_house(1 + seed % 6, 1 + seed % 4)
            party, peer = played(house, 50, seed)
            other = party_of(house, party.log())
            self.assertIs(type(other), Party)
            self.assertEqual(all_told(other), all_told(party))
            again = party_of(house, other.log())
            # Meeting by meeting: what was settled at once goes back by one meeting each time.
            rows = other.log()
            while rows:
                self.assertEqual(all_told(other), all_told(party_of(house, rows)))
                other.back()
                rows.pop()
            with self.assertRaises(Nothing):
                other.back()
            mine = Peer(house)
            mine.people, mine.rows = copy.deepcopy(peer.people), list(peer.rows)
            chance = random.Random(seed)
            for _ in range(30):
                told, due = do_by_chance(again, mine, chance)
                self.assertEqual(told, due)
                self.assertEqual(again.log(), mine.rows)
                self.assertEqual(again.standing(), mine.standing())

    def test_of_nothing(self):
        party = party_of(SORTER, [])
        self.assertEqual(all_told(party), all_told(Party(SORTER)))
        with self.assertRaises(Nothing):
            party.back()

    def test_no_house_whatever_the_log(self):
        for thing in NO_HOUSES:
            for log in ([], [("come", "ann", 0, 0)], None, "log", [1], thing):
                with self.assertRaises(NoHouse):
                    party_of(thing, log)

    def test_no_log_of_anything(self):
        with self.assertRaises(NoLog):
            party_of(SORTER, ("come", "ann", 0, 0))
        for thing in other_kinds() + [(("come", "ann", 0, 0),), {"come": 1}, {("come", "ann", 0, 0): 0}]:
            if thing != []:
                with self.assertRaises(NoLog):
                    party_of(SORTER, thing)
            with self.assertRaises(NoLog):
                party_of(SORTER, [thing])
            with self.assertRaises(NoLog):
                party_of(SORTER, [("come", "ann", 0, 0), thing])

    def test_no_log_of_nearly_one(self):
        log = [("come", "ann", 0, 0), ("come", "cat", 1, 1), ("come", "bob", 1, 0), ("meet", "ann", "bob"),
               ("meet", "bob", "cat")]
        party_of(SORTER, log)
        rows = [
            ["come", "bob", 1, 0], ("come", "bob", 1), ("come", "bob", 1, 0, 0), ("come", "Bob", 1, 0),
            ("come", "bob", 2, 0), ("come", "bob", -1, 0), ("come", "bob", 1, 2), ("come", "bob", 1, -1),
            ("come", "bob", True, 0), ("come", "bob", 1, False), ("come", "bob", "1", 0), ("come", "bob", None, 0),
            ("come", "bob", 1, None), ("Come", "bob", 1, 0), ("came", "bob", 1, 0), (0, "bob", 1, 0), ("come",), (),
            ("come", None, 1, 0), ("come", ["bob"], 1, 0), ("come", "ann", 1, 0), ("meet", "bob", 1, 0), "come bob 1 0",
            ("meet", "ann", "cat"), ("back",), ("settle",), (["come"], "bob", 1, 0), (None, "bob", 1, 0)]
        for row in rows:
            with self.assertRaises(NoLog):
                party_of(SORTER, log[:2] + [row] + log[3:])
            with self.assertRaises(NoLog):
                party_of(SORTER, log[:2] + [row])
        rows = [
            ["meet", "ann", "bob"], ("meet", "bob", "ann"), ("meet", "ann", "ann"), ("meet", "ann"), ("meet",),
            ("meet", "ann", "bob", 0), ("meet", "ann", "zoe"), ("meet", "aaa", "bob"), ("meet", "ann", None),
            ("meet", None, "bob"), ("meet", None, None), ("meet", ["ann"], "bob"), ("Meet", "ann", "bob"),
            ("come", "ann", "bob"), ("meet", 0, 1), ("meet", "ann", "Bob"), ("meet", "cat", "bob"), "meet ann bob"]
        for row in rows:
            with self.assertRaises(NoLog):
                party_of(SORTER, log[:3] + [row] + log[4:])
            with self.assertRaises(NoLog):
                party_of(SORTER, log[:3] + [row])

    def test_rows_left_out_twice_and_turned_round(self):
        log = [("come", "ann", 0, 0), ("come", "bob", 1, 0), ("meet", "ann", "bob"), ("come", "cat", 1, 1),
               ("meet", "bob", "cat")]
        party_of(SORTER, log)
        for at in range(len(log) - 1):
            with self.assertRaises(NoLog):
                party_of(SORTER, log[:at] + log[at + 1:])
        for at in range(len(log)):
            with self.assertRaises(NoLog):
                party_of(SORTER, log[:at + 1] + log[at:])
            with self.assertRaises(NoLog):
                party_of(SORTER, log + log[at:])
        with self.assertRaises(NoLog):
            party_of(SORTER, log[::-1])

    def test_sixty_come_and_no_more(self):
        log = [("come", name, 0, 0) for name in names(60)]
        self.assertEqual(len(party_of(SORTER, log)), 60)
        with self.assertRaises(NoLog):
            party_of(SORTER, log + [("come", "sixtyone", 0, 0)])
        party = party_of(SORTER, log)
        party.settle()
        self.assertEqual(len(party_of(SORTER, party.log())), 2)
        with self.assertRaises(NoLog):
            party_of(SORTER, party.log() + [("come", "sixtyone", 0, 0)])
        with self.assertRaises(NoLog):
            party_of(SORTER, [("come", "ann", 0, 0)] * 2000)

    def test_what_is_handed_in_stays_and_is_not_the_partys(self):
        log = [("come", "ann", 0, 0), ("come", "bob", 1, 0), ("meet", "ann", "bob")]
        kept = list(log)
        party = party_of(SORTER, log)
        self.assertEqual(log, kept)
        log.clear()
        self.assertEqual(party.log(), kept)
        party.come("cat", 0)
        party.settle()
        self.assertEqual(log, [])
        wrong = kept + [["meet", ["a"]]]
        for _ in range(2):
            with self.assertRaises(NoLog):
                party_of(SORTER, wrong)
            self.assertEqual(wrong, kept + [["meet", ["a"]]])


class AskersOwn(unittest.TestCase):
    def test_told_lists_change_nothing(self):
        party, _ = played(SORTER, 40, 3)
        party.come("zzzz", 0)
        party.come("zzzzz", 1)
        kept = all_told(party)
        for call in (party.log, party.rest_names):
            told = call()
            told.clear()
            told.append(None)
            self.assertIsNot(call(), call())
        told = party.settle()
        party.back()
        self.assertEqual(all_told(party), kept)
        behind = party.settle()
        self.assertEqual(told, behind)
        log = party.log()
        behind.clear()
        self.assertEqual(party.log(), log)

    def test_told_lists_are_not_changed_later(self):
        party = Party(SORTER)
        party.come("ann", 0)
        party.come("bob", 0)
        log, rest = party.log(), party.rest_names()
        party.settle()
        party.come("aaa", 1)
        party.back()
        party.back()
        party.back()
        self.assertEqual(log, [("come", "ann", 0, 0), ("come", "bob", 0, 0)])
        self.assertEqual(rest, ["ann", "bob"])

    def test_two_parties_know_nothing_of_one_another(self):
        one, other = Party(SORTER), Party(SORTER)
        one.come("ann", 0)
        one.come("bob", 0)
        self.assertEqual(all_told(other), all_told(Party(SORTER)))
        other.come("ann", 1, floor=1)
        one.settle()
        self.assertEqual(other.where("ann"), (1, 1))
        self.assertEqual(other.log(), [("come", "ann", 1, 1)])
        other.back()
        self.assertEqual(one.where("bob"), (1, 0))
        with self.assertRaises(Nothing):
            other.back()


class Soon(unittest.TestCase):
    def test_two_hundred_things(self):
        house = made_house(6, 4)
        start = time.perf_counter()
        party = Party(house)
        for name in names(60):
            party.come(name, 5)
        for _ in range(70):
            party.settle()
            party.back()
        party.settle()
        again = party_of(house, party.log())
        self.assertEqual(all_told(again), all_told(party))
        self.assertLess(time.perf_counter() - start, 4)


if __name__ == "__main__":
    unittest.main()
