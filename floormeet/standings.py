"""Standings of a house, the meetings that can be next, and companies."""

from floormeet.checks import are_up_to, is_tuple_of, is_up_to
from floormeet.errors import NoCompany, NoMeeting, NoStanding
from floormeet.houses import size

MOST_COUNT = 10 ** 18


def is_standing(house, thing):
    """Tell of anything whether it is a standing of the house, no count above MOST_COUNT."""
    m, floors = size(house)
    return has_form(thing, m, floors, MOST_COUNT)


def has_form(thing, m, floors, most):
    """Tell whether the thing has a standing's form, no count above most (None: of any size)."""
    if not is_tuple_of(thing, floors + 1) or not is_up_to(thing[-1], most):
        return False
    for counts in thing[:-1]:
        if not are_up_to(counts, m, most):
            return False
    return True


def check_standing(house, standing):
    """Refuse what is no house, then what is no standing of it."""
    m, floors = size(house)
    # Standings that are told may have counts above MOST_COUNT, and are let in again.
    if not has_form(standing, m, floors, None):
        raise NoStanding("a standing of the house was due")


def meetings(house, standing):
    """Tell all meetings that can be next, rising."""
    check_standing(house, standing)
    told = []
    for floor, counts in enumerate(standing[:-1]):
        told.extend([(floor, a, b) for a, b in pairs(counts)])
    return told


def pairs(counts):
    """Tell the numbers of all twos, rising, that can meet among so many people of each number."""
    here = [number for number, many in enumerate(counts) if many]
    return [(a, b) for a in here for b in here if a < b or (a == b and counts[a] > 1)]


def can_meet(standing, thing):
    """Tell of anything whether it is a meeting that can be next."""
    if not is_tuple_of(thing, 3):
        return False
    floor, a, b = thing
    if not is_up_to(floor, len(standing) - 2):
        return False
    counts = standing[floor]
    if not is_up_to(b, len(counts) - 1) or not is_up_to(a, b):
        return False
    if a == b:
        return counts[a] >= 2
    return counts[a] >= 1 and counts[b] >= 1


def behind(house, standing, meeting):
    """Tell the standing behind the meeting; NoMeeting, made of 0, where it can't be next."""
    check_standing(house, standing)
    if not can_meet(standing, meeting):
        raise NoMeeting(0)
    return met(house, standing, meeting)


def met(house, standing, meeting):
    """Tell the standing behind a meeting that is known to be one that can be next."""
    floor, a, b = meeting
    stay, up = house[floor]
    told = list(standing)
    here = list(standing[floor])
    here[a] -= 1
    here[b] -= 1
    here[stay[a][b]] += 1
    told[floor] = tuple(here)
    if floor + 1 < len(house):
        above = list(standing[floor + 1])
        above[up[a][b]] += 1
        told[floor + 1] = tuple(above)
    else:
        told[floor + 1] += 1
    return tuple(told)


def is_rest(house, standing):
    """Tell whether nobody can meet: at most one stands on each floor."""
    check_standing(house, standing)
    return is_still(standing)


def is_still(standing):
    """Tell of what is known to be a standing whether nobody can meet."""
    return max([sum(counts) for counts in standing[:-1]]) <= 1


def how_long(house, standing):
    """Tell how many meetings there will be till rest, as many in every order."""
    check_standing(house, standing)
    return meetings_left(standing)


def meetings_left(standing):
    """Tell of what is known to be a standing how many meetings there will be till rest."""
    # At each meeting one goes up, and of all who ever stand on a floor one alone doesn't.
    return sum([max(0, many - 1) for many in coming(standing)])


def who_rests(house, standing):
    """Tell for each floor whether somebody stands there at rest."""
    check_standing(house, standing)
    return tuple([many > 0 for many in coming(standing)])


def coming(standing):
    """Tell for each floor how many ever stand there till rest, those there now among them."""
    told = []
    rising = 0
    for counts in standing[:-1]:
        many = sum(counts) + rising
        told.append(many)
        rising = many - 1 if many else 0
    return told


def standing_of(house, company):
    """Tell the standing with the company's people on floor 0, nobody else, none out."""
    m, floors = size(house)
    if not are_up_to(company, m, MOST_COUNT):
        raise NoCompany("a company of the house was due")
    nobody = (0,) * m
    return (tuple(company),) + (nobody,) * (floors - 1) + (0,)


def together(house, one, other):
    """Tell the standing of the people of both standings, its counts their sums."""
    m, floors = size(house)
    if not has_form(one, m, floors, None) or not has_form(other, m, floors, None):
        raise NoStanding("two standings of the house were due")
    rows = [added(counts, more) for counts, more in zip(one[:-1], other[:-1])]
    return tuple(rows) + (one[-1] + other[-1],)


def added(counts, more):
    """Tell the sums of two rows of counts of one length, as a tuple."""
    return tuple([a + b for a, b in zip(counts, more)])
