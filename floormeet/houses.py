"""Houses: floors of two tables each, the one of who stays and the one of who goes up."""

from floormeet.checks import are_up_to, is_tuple_of
from floormeet.errors import NoHouse

MOST_FLOORS = 4
MOST_NUMBERS = 6


def is_house(thing):
    """Tell of anything whether it is a house."""
    if not isinstance(thing, tuple) or not 1 <= len(thing) <= MOST_FLOORS:
        return False
    for floor in thing:
        if not is_tuple_of(floor, 2):
            return False
    first = thing[0][0]
    if not isinstance(first, tuple) or not 1 <= len(first) <= MOST_NUMBERS:
        return False
    for stay, up in thing:
        if not is_table(stay, len(first)) or not is_table(up, len(first)):
            return False
    return True


def is_table(thing, m):
    """Tell of anything whether it is a table of m numbers, alike both ways about."""
    if not is_tuple_of(thing, m):
        return False
    for row in thing:
        if not are_up_to(row, m, m - 1):
            return False
    for a in range(m):
        for b in range(a):
            if thing[a][b] != thing[b][a]:
                return False
    return True


def size(house):
    """Tell how many numbers and how many floors the house has; NoHouse of what is none."""
    if not is_house(house):
        raise NoHouse("a house was due")
    return (len(house[0][0]), len(house))
