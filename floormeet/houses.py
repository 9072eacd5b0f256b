"""Houses: floors of two tables each, the one of who stays and the one of who goes up."""

from floormeet.checks import is_whole
from floormeet.errors import NoHouse

MOST_FLOORS = 4
MOST_NUMBERS = 6
# What a floor's two tables are called, in their order.
WORDS = ("stay", "up")
# The places left of the middle line of the greatest table; a lesser one has the first of them.
LEFT_PLACES = (
    (1, 0), (2, 0), (2, 1), (3, 0), (3, 1), (3, 2), (4, 0), (4, 1), (4, 2), (4, 3),
    (5, 0), (5, 1), (5, 2), (5, 3), (5, 4),
)

# The house that was found to be one last. Call after call comes with the same house, and that two
# are equal is found much sooner than that all numbers of one of them are as they should be.
LAST_HOUSE = None


def is_house(thing):
    """Tell of anything whether it is a house."""
    global LAST_HOUSE
    # True equals 1: what equals a house is one only where its numbers are known to be whole.
    if not has_form(thing):
        return False
    if thing != LAST_HOUSE:
        if not has_right_numbers(thing):
            return False
        LAST_HOUSE = thing
    return True


def has_form(thing):
    """Tell of anything whether it has a house's form, with whole numbers of any size in it."""
    if not isinstance(thing, tuple) or not 1 <= len(thing) <= MOST_FLOORS:
        return False
    m = 0
    for floor in thing:
        if not isinstance(floor, tuple) or len(floor) != 2:
            return False
        for table in floor:
            if not isinstance(table, tuple):
                return False
            m = m or len(table)
            if len(table) != m or not 1 <= m <= MOST_NUMBERS:
                return False
            for row in table:
                if not isinstance(row, tuple) or len(row) != m:
                    return False
                for number in row:
                    # Nearly all that stands here is a plain int, and its kind tells so soonest.
                    if type(number) is not int and not is_whole(number):
                        return False
    return True


def has_right_numbers(thing):
    """Tell of what has a house's form whether its numbers are below m, alike both ways about."""
    m = len(thing[0][0])
    places = LEFT_PLACES[:m * (m - 1) // 2]
    for floor in thing:
        for table in floor:
            for row in table:
                for number in row:
                    if number < 0 or number >= m:
                        return False
            for a, b in places:
                if table[a][b] != table[b][a]:
                    return False
    return True


def size(house):
    """Tell how many numbers and how many floors the house has; NoHouse of what is none."""
    if not is_house(house):
        raise NoHouse("a house was due")
    return (len(house[0][0]), len(house))
