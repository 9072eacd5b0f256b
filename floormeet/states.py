"""States: who rests on each floor; which of them come, by how few, in how many ways, and how soon again.

In a fair house late comers lead a state to the same one in whatever order they come. So companies are
gone through one person behind the other, and whoever is out is forgotten.
"""

from floormeet.checks import is_tuple_of, is_up_to
from floormeet.ends import brought_to_rest
from floormeet.errors import NoNumber, NoState
from floormeet.fair import check_fair
from floormeet.standings import standing_of

MOST_PEOPLE = 60


def states(house):
    """Tell the states of the ends of all companies, rising."""
    check_fair(house)
    return sorted(least_ways(house, state_of_nobody(house), people_below(house)), key=rank)


def least_company(house, state):
    """Tell the least company whose end has the state, None where it never comes."""
    check_fair(house)
    check_state(house, state)
    return company_between(house, state_of_nobody(house), state)


def counted(house, many, state):
    """Tell how many companies of so many people come to the state."""
    check_fair(house)
    check_state(house, state)
    if not is_up_to(many, MOST_PEOPLE):
        raise NoNumber("a number of people from 0 to 60 was due")
    places = {}
    for at, here in enumerate(least_ways(house, state_of_nobody(house), people_below(house))):
        places[here] = at
    if state not in places:
        return 0
    return counts_of_companies(house, many, places)[places[state]]


def counts_of_companies(house, many, places):
    """Tell by the places of all states that come how many companies of so many people come to each."""
    rows = [[0] * len(places) for _ in range(many + 1)]
    rows[0][places[state_of_nobody(house)]] = 1
    # Each company is counted once: all of one number come ahead of all of the next one.
    for floor, number in people_below(house):
        steps = [places[late_comer(house, here, floor, number)] for here in places]
        later = [rows[0]]
        for row in rows[1:]:
            later.append(added_behind(row, steps, later[-1]))
        rows = later
    return rows[many]


def added_behind(row, steps, fewer):
    """Tell the row of counts with those of one person fewer added behind the steps."""
    told = list(row)
    for at, companies in zip(steps, fewer):
        if companies:
            told[at] += companies
    return told


def round_of(house, company):
    """Tell behind how many times this company states come again, and behind how many times more."""
    check_fair(house)
    # Who rests of the company alone stands for it: all others of it are out, whoever else comes.
    more = resting(brought_to_rest(house, standing_of(house, company)))
    here = state_of_nobody(house)
    behind = {}
    while here not in behind:
        behind[here] = len(behind)
        for floor, number in enumerate(more):
            if number is not None:
                here = late_comer(house, here, floor, number)
    return (behind[here], len(behind) - behind[here])


def resting(end):
    """Tell the state of a standing at rest."""
    return tuple([counts.index(1) if 1 in counts else None for counts in end[:-1]])


def is_state(house, thing):
    """Tell of anything whether it is a state of what is known to be a house."""
    if not is_tuple_of(thing, len(house)):
        return False
    m = len(house[0][0])
    for number in thing:
        if number is not None and not is_up_to(number, m - 1):
            return False
    return True


def check_state(house, state):
    """Refuse what is no state of what is known to be a house."""
    if not is_state(house, state):
        raise NoState("a state of the house was due")


def rank(state):
    """Tell by what states are put in order: None is ahead of all numbers."""
    return [-1 if number is None else number for number in state]


def state_of_nobody(house):
    """Tell the state in which nobody rests anywhere."""
    return (None,) * len(house)


def people_below(house):
    """Tell all (floor, number) of people on floor 0, rising."""
    return [(0, number) for number in range(len(house[0][0]))]


def late_comer(house, state, floor, number):
    """Tell to which state a late comer of the number on the floor leads."""
    told = list(state)
    for at in range(floor, len(told)):
        here = told[at]
        if here is None:
            told[at] = number
            break
        stay, up = house[at]
        told[at] = stay[here][number]
        number = up[here][number]
    return tuple(told)


def least_ways(house, start, people):
    """Tell for each state to which late comers out of these people lead how its least row of them ends.

    The states are in the order of their least rows: of fewest people, of such the least as lists. With
    each is a tuple: the state ahead of the row's last one (None at the start), and the last one's place
    among the people.
    """
    told = {start: (None, 0)}
    layer = [start]
    while layer:
        later = []
        for state in layer:
            # A least row without its last one is a least row: it goes on by nobody less than its last.
            first = told[state][1]
            for place in range(first, len(people)):
                floor, number = people[place]
                after = late_comer(house, state, floor, number)
                if after not in told:
                    told[after] = (state, place)
                    later.append(after)
        layer = later
    return told


def row_to(ways, people, state):
    """Tell the least row of people that leads to the state, of what least_ways told."""
    told = []
    ahead, place = ways[state]
    while ahead is not None:
        told.append(people[place])
        ahead, place = ways[ahead]
    told.reverse()
    return told


def company_of(house, row):
    """Tell the company of the people in a row."""
    counts = [0] * len(house[0][0])
    for _, number in row:
        counts[number] += 1
    return tuple(counts)


def company_between(house, one, other):
    """Tell the least company that leads one state to the other by late comers on floor 0, or None."""
    people = people_below(house)
    ways = least_ways(house, one, people)
    if other not in ways:
        return None
    return company_of(house, row_to(ways, people, other))
