"""Houses, standings and things of other kinds for the tests, and meetings gone through one by one."""

import random

HUGE = 10 ** 18

# Two numbers, two floors: the greater stays and the lesser goes up, as written by hand.
SORT = ((0, 1), (1, 1)), ((0, 0), (0, 1))
SORTER = (SORT, SORT)

SIZES = [(m, floors) for m in range(1, 7) for floors in range(1, 5)]


def made_table(m, chance):
    rows = [[0] * m for _ in range(m)]
    for a in range(m):
        for b in range(a, m):
            rows[a][b] = rows[b][a] = chance.randrange(m)
    return tuple(tuple(row) for row in rows)


def made_house(m, floors, seed=0):
    chance = random.Random(1000 * m + 100 * floors + seed)
    return tuple((made_table(m, chance), made_table(m, chance)) for _ in range(floors))


def made_standing(house, people, seed=0):
    """So many people, each on any floor with any number, and some more who are out."""
    chance = random.Random(seed)
    m = len(house[0][0])
    rows = [[0] * m for _ in house]
    for _ in range(people):
        rows[chance.randrange(len(house))][chance.randrange(m)] += 1
    return tuple(tuple(row) for row in rows) + (chance.randrange(3),)


def every_meeting(standing):
    """All pairs of people on one floor, person by person, as (floor, a, b)."""
    found = set()
    for floor, counts in enumerate(standing[:-1]):
        people = [number for number, many in enumerate(counts) for _ in range(many)]
        for at, a in enumerate(people):
            for b in people[at + 1:]:
                found.add((floor, a, b))
    return sorted(found)


def person_by_person(house, standing, meeting):
    """The standing behind a meeting, by moving two people between lists of people."""
    floor, a, b = meeting
    m = len(house[0][0])
    stand = [[n for n, many in enumerate(counts) for _ in range(many)] for counts in standing[:-1]]
    out = [None] * standing[-1]
    stand[floor].remove(a)
    stand[floor].remove(b)
    stand[floor].append(house[floor][0][a][b])
    (stand + [out])[floor + 1].append(house[floor][1][a][b])
    return tuple(tuple(row.count(n) for n in range(m)) for row in stand) + (len(out),)


def all_ends(house, standing):
    """The set of (how many meetings, end) over all orders of meetings."""
    told = {standing: {0}}
    ends = set()
    waiting = [(standing, 0)]
    seen = set(waiting)
    while waiting:
        here, many = waiting.pop()
        nexts = every_meeting(here)
        if not nexts:
            ends.add((many, here))
        for meeting in nexts:
            step = (person_by_person(house, here, meeting), many + 1)
            if step not in seen:
                seen.add(step)
                waiting.append(step)
    return ends


class Plain:
    """A thing of no kind that the program knows."""


def other_kinds():
    """Things that are no house, no standing, no meeting and no company of any house."""
    deep = 0
    for _ in range(38):
        deep = (deep,)
    wide = ()
    for _ in range(30):
        wide = (wide, wide)
    return [
        None, True, False, 0, 1, -1, HUGE, -HUGE, "", "0", "stay", "(0, 0, 0)", b"", b"\x00\x00\x00",
        [], {}, set(), frozenset(), {0: 0}, {0, 1}, [0], [0, 0, 0], ["a"], (), (None,), (True,), ("",), ((),),
        ((), ()), (((), ()),), ([],), deep, wide, (0,) * 2000, Plain(), Plain, len, ValueError("a"), Ellipsis,
        range(3), iter([0, 0, 0]), (lambda: 0), NotImplemented, bytearray(3), slice(3),
    ]
