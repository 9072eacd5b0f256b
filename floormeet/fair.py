"""Fair houses, papers that show a house unfair, and of what kind each floor is.

A house is fair, for all standings however great, just where any three people on one floor, alone in
the house, have one end. So it is enough to look at three, in each order: which two of them meet first.
"""

from floormeet.checks import are_up_to, is_tuple_of, is_up_to
from floormeet.errors import NotFair
from floormeet.houses import size
from floormeet.runs import gone
from floormeet.standings import is_still


def is_fair(house):
    """Tell whether every standing of the house has one end."""
    size(house)
    return least_parted(house) is None


def paper(house):
    """Tell the least paper of an unfair house, None of a fair one."""
    size(house)
    parted = least_parted(house)
    if parted is None:
        return None
    floor, three = parted
    shown = sorted([(run_of_three(house, floor, order), end_of_three(house, floor, order)) for order in orders(three)])
    run, end = shown[0]
    unlike = [other for other, its_end in shown if its_end != end]
    return (floor, three, run, unlike[0])


def check_fair(house):
    """Refuse what is no house, then an unfair house."""
    shown = paper(house)
    if shown is not None:
        raise NotFair(shown)


def is_paper(house, thing):
    """Tell of anything whether it is a paper of the house."""
    m, floors = size(house)
    if not is_tuple_of(thing, 4):
        return False
    floor, three, run, other = thing
    if not is_up_to(floor, floors - 1) or not are_up_to(three, 3, m - 1):
        return False
    if not three[0] <= three[1] <= three[2]:
        return False
    end = end_behind(house, floor, three, run)
    other_end = end_behind(house, floor, three, other)
    return end is not None and other_end is not None and end != other_end


def end_behind(house, floor, three, thing):
    """Tell to which end the thing leads three on the floor, None where it is no run to rest of them."""
    if not isinstance(thing, list):
        return None
    m = len(house[0][0])
    rows = [(0,) * m for _ in house]
    rows[floor] = tuple([three.count(number) for number in range(m)])
    end, many = gone(house, tuple(rows) + (0,), thing)
    if many < len(thing) or not is_still(end):
        return None
    return end


def floor_kinds(house):
    """Tell floor by floor whether it stands by itself, leans on those above, or falls."""
    m, floors = size(house)
    return [kind_of(house, floor, threes(m)) for floor in range(floors)]


def kind_of(house, floor, every_three):
    """Tell of what kind the floor is, by every three on it."""
    told = "stands"
    for three in every_three:
        if is_parted(house, floor, three):
            return "falls"
        if not is_alike_alone(house[floor], three):
            told = "leans"
    return told


def is_alike_alone(tables, three):
    """Tell whether who stays of the three and the heap of those who go up are alike in all orders."""
    told = []
    for order in orders(three):
        rest, one, other = left_of_three(tables, order)
        told.append((rest, min(one, other), max(one, other)))
    return told[0] == told[1] == told[2]


def certain_floors(house):
    """Tell of how many of the lowest floors the numbers at rest are always the same in all orders."""
    _, floors = size(house)
    told = 0
    # What becomes of the lowest floors hangs on them alone: they are certain where they are a fair house.
    while told < floors and least_parted(house[:told + 1]) is None:
        told += 1
    return told


def least_parted(house):
    """Tell the least floor and three on it that have more than one end, None where there are none."""
    every_three = threes(len(house[0][0]))
    for floor in range(len(house)):
        for three in every_three:
            if is_parted(house, floor, three):
                return (floor, three)
    return None


def threes(m):
    """Tell all threes of m numbers, rising, none less than the one ahead."""
    return [(a, b, c) for a in range(m) for b in range(a, m) for c in range(b, m)]


def orders(three):
    """Tell all orders of three on a floor: the first two meet, then who stays of them and the third."""
    a, b, c = three
    return ((a, b, c), (a, c, b), (b, c, a))


def is_parted(house, floor, three):
    """Tell whether the three on the floor, alone in the house, have more than one end."""
    first, second, third = orders(three)
    end = end_of_three(house, floor, first)
    return end_of_three(house, floor, second) != end or end_of_three(house, floor, third) != end


def left_of_three(tables, order):
    """Tell who stays of three on a floor, and the two that go up, the first ahead."""
    stay, up = tables
    a, b, c = order
    between = stay[a][b]
    return (stay[between][c], up[a][b], up[between][c])


def end_of_three(house, floor, order):
    """Tell the numbers at rest of three on the floor, alone in the house, floor by floor."""
    rest, one, other = left_of_three(house[floor], order)
    if floor + 1 == len(house):
        return (rest,)
    stay, up = house[floor + 1]
    if floor + 2 == len(house):
        return (rest, stay[one][other])
    return (rest, stay[one][other], up[one][other])


def run_of_three(house, floor, order):
    """Tell the run of three on the floor, alone in the house, in this order."""
    a, b, c = order
    between = house[floor][0][a][b]
    told = [meeting_of(floor, a, b), meeting_of(floor, between, c)]
    if floor + 1 < len(house):
        _, one, other = left_of_three(house[floor], order)
        told.append(meeting_of(floor + 1, one, other))
    return told


def meeting_of(floor, a, b):
    """Tell the meeting of these two on the floor."""
    return (floor, min(a, b), max(a, b))
