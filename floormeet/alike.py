"""Houses alike or parted by a least company, and numbers that look alike where only some floors are seen.

In a fair house whoever stands anywhere may come to rest ahead of one more person: what a person
leads to is seen in full by late comers to states.
"""

from floormeet.ahead import every_state
from floormeet.checks import is_up_to
from floormeet.errors import NoFloor, NoNumber, NotLike, NoSeen
from floormeet.fair import check_fair
from floormeet.houses import size
from floormeet.states import company_of, late_comer, least_ways, people_below, row_to, state_of_nobody


def least_unlike(house, other):
    """Tell the least company whose ends have unlike states in both houses, None where they are alike."""
    check_two(house, other)
    people = people_below(house)
    ways = least_ways(house, state_of_nobody(house), people)
    # The least rows come in order, and the least company without its last one is still alike in both:
    # so up to it all rows lead to the same states in both houses.
    for state, (_, first) in ways.items():
        for floor, number in people[first:]:
            if late_comer(house, state, floor, number) != late_comer(other, state, floor, number):
                return company_of(house, row_to(ways, people, state) + [(floor, number)])
    return None


def look_alike(house, seen, floor):
    """Tell the classes of numbers on the floor that look alike, rising lists, by their least."""
    check_seen(house, seen, floor)
    every = every_state(house)
    classes = {}
    for number in range(len(house[0][0])):
        views = tuple([view(house, seen, state, floor, number) for state in every])
        classes.setdefault(views, []).append(number)
    return list(classes.values())


def telling(house, seen, floor, a, b):
    """Tell the least row of people beside whom the two numbers lead to what is seen unlike, or None."""
    check_seen(house, seen, floor)
    m, floors = size(house)
    if not is_up_to(a, m - 1) or not is_up_to(b, m - 1):
        raise NoNumber("two numbers of the house were due")
    people = [(at, number) for at in range(floors) for number in range(m)]
    ways = least_ways(house, state_of_nobody(house), people)
    for state in ways:
        if view(house, seen, state, floor, a) != view(house, seen, state, floor, b):
            return row_to(ways, people, state)
    return None


def view(house, seen, state, floor, number):
    """Tell what is seen of the state behind a late comer of the number on the floor."""
    after = late_comer(house, state, floor, number)
    return tuple([after[at] for at in seen])


def check_two(house, other):
    """Refuse what are no houses, then unfair ones, then two that are not of one size."""
    one_size = size(house)
    other_size = size(other)
    check_fair(house)
    check_fair(other)
    if one_size != other_size:
        raise NotLike("two houses of one size were due")


def check_seen(house, seen, floor):
    """Refuse an unfair house, then what is no floors seen, then what is no floor of the house."""
    check_fair(house)
    top = len(house) - 1
    if not is_rising(seen, top):
        raise NoSeen("a rising tuple of floors was due")
    if not is_up_to(floor, top):
        raise NoFloor("a floor of the house was due")


def is_rising(thing, most):
    """Tell of anything whether it is a rising tuple of whole numbers up to most, one at least."""
    if not isinstance(thing, tuple) or not thing:
        return False
    least = 0
    for number in thing:
        if not is_up_to(number, most) or number < least:
            return False
        least = number + 1
    return True
