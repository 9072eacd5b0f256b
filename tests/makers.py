"""Houses, standings and things of other kinds for the tests, and meetings gone through one by one."""

import functools
import itertools
import random

from floormeet.fair import is_fair

HUGE = 10 ** 18

# Two numbers, two floors: the greater stays and the lesser goes up, as written by hand.
SORT = ((0, 1), (1, 1)), ((0, 0), (0, 1))
SORTER = (SORT, SORT)

SIZES = [(m, floors) for m in range(1, 7) for floors in range(1, 5)]


def made_table(m, chance):
    rows = [[0] * m for _ in range(m)]
    for a in range(m):
        for b in range(a, m):
            rows[a][b] = rows[b][a] = chance.randrange(m)
    return tuple(tuple(row) for row in rows)


def made_house(m, floors, seed=0):
    chance = random.Random(1000 * m + 100 * floors + seed)
    return tuple((made_table(m, chance), made_table(m, chance)) for _ in range(floors))


def made_standing(house, people, seed=0):
    """So many people, each on any floor with any number, and some more who are out."""
    chance = random.Random(seed)
    m = len(house[0][0])
    rows = [[0] * m for _ in house]
    for _ in range(people):
        rows[chance.randrange(len(house))][chance.randrange(m)] += 1
    return tuple(tuple(row) for row in rows) + (chance.randrange(3),)


def every_meeting(standing):
    """All pairs of people on one floor, person by person, as (floor, a, b)."""
    found = set()
    for floor, counts in enumerate(standing[:-1]):
        people = [number for number, many in enumerate(counts) for _ in range(many)]
        for at, a in enumerate(people):
            for b in people[at + 1:]:
                found.add((floor, a, b))
    return sorted(found)


def person_by_person(house, standing, meeting):
    """The standing behind a meeting, by moving two people between lists of people."""
    floor, a, b = meeting
    m = len(house[0][0])
    stand = [[n for n, many in enumerate(counts) for _ in range(many)] for counts in standing[:-1]]
    out = [None] * standing[-1]
    stand[floor].remove(a)
    stand[floor].remove(b)
    stand[floor].append(house[floor][0][a][b])
    (stand + [out])[floor + 1].append(house[floor][1][a][b])
    return tuple(tuple(row.count(n) for n in range(m)) for row in stand) + (len(out),)


def all_ends(house, standing):
    """The set of (how many meetings, end) over all orders of meetings."""
    told = {standing: {0}}
    ends = set()
    waiting = [(standing, 0)]
    seen = set(waiting)
    while waiting:
        here, many = waiting.pop()
        nexts = every_meeting(here)
        if not nexts:
            ends.add((many, here))
        for meeting in nexts:
            step = (person_by_person(house, here, meeting), many + 1)
            if step not in seen:
                seen.add(step)
                waiting.append(step)
    return ends


def meeting_later(house, standing):
    """For each meeting that can be next, rising: the meeting and the standing behind it."""
    told = []
    for floor, (stay, up) in enumerate(house):
        counts = standing[floor]
        here = [number for number, many in enumerate(counts) if many]
        for a, b in itertools.combinations_with_replacement(here, 2):
            if a == b and counts[a] < 2:
                continue
            row = list(counts)
            row[a] -= 1
            row[b] -= 1
            row[stay[a][b]] += 1
            if floor + 1 < len(house):
                next_row = list(standing[floor + 1])
                next_row[up[a][b]] += 1
                changed = (tuple(row), tuple(next_row))
            else:
                changed = (tuple(row), standing[-1] + 1)
            told.append(((floor, a, b), standing[:floor] + changed + standing[floor + 2:]))
    return told


def counted_ways(house, standing):
    """How many runs lead to each end, by going through all standings, layer by layer."""
    layer = {standing: 1}
    while True:
        told = {}
        for here, runs in layer.items():
            for _, behind in meeting_later(house, here):
                told[behind] = told.get(behind, 0) + runs
        if not told:
            return layer
        layer = told


def any_run(house, standing, chance):
    """A run to rest in an order left to chance, and its end."""
    row = []
    while nexts := meeting_later(house, standing):
        meeting, standing = chance.choice(nexts)
        row.append(meeting)
    return row, standing


def nobody(house):
    return ((0,) * len(house[0][0]),) * len(house) + (0,)


def on_floor(house, floor, numbers):
    """The standing with people of these numbers on the floor, nobody else."""
    m = len(house[0][0])
    row = tuple(list(numbers).count(number) for number in range(m))
    return nobody(house)[:floor] + (row,) + nobody(house)[floor + 1:]


def table_of(m, number):
    return tuple(tuple(number(a, b) for b in range(m)) for a in range(m))


def sorting_floor(m):
    return table_of(m, max), table_of(m, min)


def counting_floor(m):
    return table_of(m, lambda a, b: (a + b) % m), table_of(m, lambda a, b: (a + b) // m)


def plain_floor(m, stay, up):
    """A floor on which one number stays and one goes up, whoever meets."""
    return table_of(m, lambda a, b: stay), table_of(m, lambda a, b: up)


def called_otherwise(house, seed):
    """The house with the numbers of each floor called otherwise, in an order left to chance."""
    chance = random.Random(seed)
    m = len(house[0][0])
    names = [chance.sample(range(m), m) for _ in house]
    told = []
    for floor, tables in enumerate(house):
        here, above = names[floor], names[min(floor + 1, len(house) - 1)]
        new = []
        for table, calling in zip(tables, (here, above)):
            rows = [[0] * m for _ in range(m)]
            for a in range(m):
                for b in range(m):
                    rows[here[a]][here[b]] = calling[table[a][b]]
            new.append(tuple(tuple(row) for row in rows))
        told.append(tuple(new))
    return tuple(told)


def sure_houses():
    """Houses of all sizes all of whose floors stand by themselves."""
    told = []
    for m, floors in SIZES:
        told.append((sorting_floor(m),) * floors)
        told.append((counting_floor(m),) * floors)
        told.append(tuple((sorting_floor(m), counting_floor(m), plain_floor(m, m - 1, 0))[k % 3] for k in range(floors)))
    return told + [called_otherwise(house, seed) for seed, house in enumerate(told)]


def leaning_houses():
    """Fair houses of all sizes from two numbers and two floors on, with floors that only lean."""
    told = []
    for m, floors in SIZES:
        if m > 1 and floors > 1:
            for seed in range(3):
                ups = made_table(m, random.Random(seed))
                lowest = (table_of(m, (max, min, lambda a, b: (a + b) % m)[seed]), ups)
                told.append((lowest,) + (plain_floor(m, 0, m - 1),) * (floors - 1))
    return told + [called_otherwise(house, seed) for seed, house in enumerate(told)]


def with_entry(house, floor, which, a, b, number):
    """The house with another number in one table at a, b and at b, a."""
    tables = [[[list(row) for row in table] for table in tables] for tables in house]
    tables[floor][which][a][b] = tables[floor][which][b][a] = number
    return tuple(tuple(tuple(tuple(row) for row in table) for table in floor) for floor in tables)


def walked_houses():
    """Fair houses of all sizes, a few numbers of each changed by chance so that it stays fair."""
    told = []
    for at, house in enumerate(sure_houses() + leaning_houses()):
        chance = random.Random(at)
        m, floors = len(house[0][0]), len(house)
        for _ in range(40):
            other = with_entry(house, chance.randrange(floors), chance.randrange(2), chance.randrange(m),
                               chance.randrange(m), chance.randrange(m))
            if is_fair(other):
                house = other
        told.append(house)
    return told


@functools.cache
def fair_houses(most_numbers=6, most_floors=4):
    """Fair houses of all sizes up to these, many of them of two or three numbers as they are drawn."""
    drawn = [made_house(m, floors, seed) for m in (2, 3) for floors in (1, 2, 3, 4) for seed in range(60)]
    every = sure_houses() + leaning_houses() + walked_houses() + [house for house in drawn if is_fair(house)]
    return [house for house in every if len(house[0][0]) <= most_numbers and len(house) <= most_floors]


@functools.cache
def unfair_houses():
    return [house for m, floors in SIZES for house in [made_house(m, floors, 9)] if not is_fair(house)]


def state_of(end):
    """Who rests on each floor of a standing at rest."""
    assert all(sum(counts) <= 1 for counts in end[:-1])
    return tuple(counts.index(1) if 1 in counts else None for counts in end[:-1])


def resting_in(house, state):
    """The standing of those who rest in the state, as lists of counts."""
    return [[int(number == rests) for number in range(len(house[0][0]))] for rests in state]


def behind_late(house, state, *people):
    """The state behind these late comers, (floor, number) each, in some order of meetings."""
    rows = resting_in(house, state)
    for floor, number in people:
        rows[floor][number] += 1
    return state_of(any_run(house, tuple(map(tuple, rows)) + (0,), random.Random(len(people)))[1])


def all_states(house):
    """All states, those that never come too, rising."""
    numbers = [None] + list(range(len(house[0][0])))
    return list(itertools.product(numbers, repeat=len(house)))


def ranked(state):
    return [-1 if number is None else number for number in state]


def companies_of(m, many):
    """All companies of so many people, by their numbers as rising lists, the least list first."""
    for numbers in itertools.combinations_with_replacement(range(m), many):
        yield tuple(numbers.count(number) for number in range(m))


def numbers_of(company):
    """The numbers of a company's people, rising."""
    return [number for number, many in enumerate(company) for _ in range(many)]


def state_behind(house, company):
    """The state of the end of a company of few people."""
    return behind_late(house, (None,) * len(house), *[(0, number) for number in numbers_of(company)])


def least_lists(house, start):
    """By all states to which late comers on floor 0 lead from this one the least list of their numbers."""
    told = {start: []}
    layer = {start: []}
    while layer:
        found = {}
        for state, numbers in layer.items():
            for number in range(len(house[0][0])):
                after = behind_late(house, state, (0, number))
                row = sorted(numbers + [number])
                if after not in told and row < found.get(after, [6]):
                    found[after] = row
        told.update(found)
        layer = found
    return told


class Plain:
    """A thing of no kind that the program knows."""


def other_kinds():
    """Things that are no house, no standing, no meeting and no company of any house."""
    deep = 0
    for _ in range(38):
        deep = (deep,)
    wide = ()
    for _ in range(30):
        wide = (wide, wide)
    return [
        None, True, False, 0, 1, -1, HUGE, -HUGE, "", "0", "stay", "(0, 0, 0)", b"", b"\x00\x00\x00",
        [], {}, set(), frozenset(), {0: 0}, {0, 1}, [0], [0, 0, 0], ["a"], (), (None,), (True,), ("",), ((),),
        ((), ()), (((), ()),), ([],), deep, wide, (0,) * 2000, Plain(), Plain, len, ValueError("a"), Ellipsis,
        range(3), iter([0, 0, 0]), (lambda: 0), NotImplemented, bytearray(3), slice(3),
    ]
