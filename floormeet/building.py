"""Houses built of others or by a rule, semigroups, and mends of houses."""

from floormeet.checks import are_up_to, is_tuple_of, is_up_to
from floormeet.errors import NotLike
from floormeet.fair import is_parted, orders, run_of_three, threes
from floormeet.houses import MOST_FLOORS, MOST_NUMBERS, WORDS, size

MOST_IN_SEMIGROUPS = 3


def over(house, other):
    """Tell the house with the other's floors below its own."""
    m, floors = size(house)
    other_m, other_floors = size(other)
    if m != other_m or floors + other_floors > MOST_FLOORS:
        raise NotLike("two houses of one number of numbers and few floors were due")
    return other + house


def beside(house, other):
    """Tell the house of pairs of numbers, on each floor by both houses' tables."""
    m, floors = size(house)
    other_m, other_floors = size(other)
    if floors != other_floors or m * other_m > MOST_NUMBERS:
        raise NotLike("two houses of as many floors and few numbers were due")
    told = []
    for tables, others in zip(house, other):
        told.append(tuple([paired(table, more) for table, more in zip(tables, others)]))
    return tuple(told)


def paired(table, more):
    """Tell the table of pairs by both tables: of a and b the number a * the second one's m + b."""
    m = len(more)
    told = []
    for row in table:
        for others in more:
            told.append(tuple([number * m + other for number in row for other in others]))
    return tuple(told)


def called(house, callings):
    """Tell the house with each floor's numbers called otherwise, number a of a floor by its a-th."""
    m, floors = size(house)
    if not is_tuple_of(callings, floors):
        raise NotLike("a tuple of callings, one for each floor, was due")
    for calling in callings:
        if not are_up_to(calling, m, m - 1) or len(set(calling)) < m:
            raise NotLike("a calling that puts all numbers in an order was due")
    told = []
    for floor, (stay, up) in enumerate(house):
        here = callings[floor]
        above = callings[min(floor + 1, floors - 1)]
        told.append((called_table(stay, here, here), called_table(up, here, above)))
    return tuple(told)


def called_table(table, calling, told_by):
    """Tell the table of numbers called by the calling, what it tells called by told_by."""
    m = len(table)
    rows = [[0] * m for _ in range(m)]
    for a, row in enumerate(table):
        for b, number in enumerate(row):
            rows[calling[a]][calling[b]] = told_by[number]
    return tuple([tuple(row) for row in rows])


def sorter(m, floors):
    """Tell the house on whose floors the greater number stays and the lesser goes up."""
    check_sizes(m, floors)
    stay = tuple([tuple([max(a, b) for b in range(m)]) for a in range(m)])
    up = tuple([tuple([min(a, b) for b in range(m)]) for a in range(m)])
    return ((stay, up),) * floors


def counter(m, floors):
    """Tell the house on whose floors the rest of the sum by m stays and its carry goes up."""
    check_sizes(m, floors)
    stay = tuple([tuple([(a + b) % m for b in range(m)]) for a in range(m)])
    up = tuple([tuple([(a + b) // m for b in range(m)]) for a in range(m)])
    return ((stay, up),) * floors


def check_sizes(m, floors):
    """Refuse sizes that no house has."""
    if not is_up_to(m, MOST_NUMBERS) or not is_up_to(floors, MOST_FLOORS) or m < 1 or floors < 1:
        raise NotLike("sizes that a house has were due")


def semigroups(m):
    """Tell all tables of m numbers in which what stays of three is the same in all orders, rising."""
    if not is_up_to(m, MOST_IN_SEMIGROUPS) or m < 1:
        raise NotLike("a number of numbers from 1 to 3 was due")
    return sorted([table for table in every_table(m) if is_semigroup(table)])


def every_table(m):
    """Tell all tables of m numbers."""
    places = [(a, b) for a in range(m) for b in range(a, m)]
    fillings = [()]
    for _ in places:
        fillings = [filling + (number,) for filling in fillings for number in range(m)]
    return [filled_table(m, places, filling) for filling in fillings]


def filled_table(m, places, filling):
    """Tell the table of m numbers with these ones at the places, both ways about."""
    rows = [[0] * m for _ in range(m)]
    for (a, b), number in zip(places, filling):
        rows[a][b] = number
        rows[b][a] = number
    return tuple([tuple(row) for row in rows])


def is_semigroup(table):
    """Tell whether any three put together by the table come to the same in all orders."""
    for three in threes(len(table)):
        told = [table[table[a][b]][c] for a, b, c in orders(three)]
        if not told[0] == told[1] == told[2]:
            return False
    return True


def mends(house):
    """Tell all mends of the house, rising."""
    size(house)
    parted = {place: True for place in places_of_threes(house) if is_parted(house, place[0], place[1])}
    by_meeting = threes_by_meeting(house)
    told = []
    for entry in every_entry(house):
        floor, _, a, b = entry
        # Threes of whom never two are a and b here go as they went, whatever number is put in.
        places = by_meeting.get((floor, a, b), [])
        if len([place for place in places if place in parted]) == len(parted):
            told.extend([entry + (number,) for number in mending_numbers(house, entry, places)])
    return told


def every_entry(house):
    """Tell every (floor, word, a, b) of the house, a at most b, rising."""
    m, floors = size(house)
    return [
        (floor, word, a, b)
        for floor in range(floors) for word in WORDS for a in range(m) for b in range(a, m)
    ]


def mending_numbers(house, entry, places):
    """Tell the other numbers with which at the entry no three at these places have more than one end."""
    floor, word, a, b = entry
    told = []
    for number in range(len(house[0][0])):
        if number != house[floor][WORDS.index(word)][a][b]:
            changed = with_number(house, entry, number)
            if not is_any_parted(changed, places):
                told.append(number)
    return told


def is_any_parted(house, places):
    """Tell whether the three at any of these places have more than one end."""
    for floor, three in places:
        if is_parted(house, floor, three):
            return True
    return False


def places_of_threes(house):
    """Tell every (floor, three) of the house."""
    every_three = threes(len(house[0][0]))
    return [(floor, three) for floor in range(len(house)) for three in every_three]


def threes_by_meeting(house):
    """Tell by the meeting at which (floor, three) it happens in some order."""
    told = {}
    for floor, three in places_of_threes(house):
        happening = [meeting for order in orders(three) for meeting in run_of_three(house, floor, order)]
        for meeting in sorted(set(happening)):
            told.setdefault(meeting, []).append((floor, three))
    return told


def with_number(house, entry, number):
    """Tell the house with this number at the entry, both ways about."""
    floor, word, a, b = entry
    which = WORDS.index(word)
    rows = [list(row) for row in house[floor][which]]
    rows[a][b] = number
    rows[b][a] = number
    tables = list(house[floor])
    tables[which] = tuple([tuple(row) for row in rows])
    told = list(house)
    told[floor] = tuple(tables)
    return tuple(told)
