"""What must have been ahead of a state, and by which late comers one state leads to another."""

from floormeet.checks import is_up_to
from floormeet.errors import NoNumber
from floormeet.fair import check_fair
from floormeet.states import check_state, company_between, late_comer


def ahead_of(house, state, number):
    """Tell all states, rising, that a late comer of the number on floor 0 leads to the state."""
    check_fair(house)
    check_state(house, state)
    m = len(house[0][0])
    if not is_up_to(number, m - 1):
        raise NoNumber("a number of the house was due")
    return [ahead for ahead in every_state(house) if late_comer(house, ahead, 0, number) == state]


def between(house, one, other):
    """Tell the least company whose people lead the one state to the other, None where there is none."""
    check_fair(house)
    check_state(house, one)
    check_state(house, other)
    return company_between(house, one, other)


def every_state(house):
    """Tell all states of the house, rising, whether they come or not."""
    told = [()]
    for tables in house:
        numbers = [None] + list(range(len(tables[0])))
        told = [state + (number,) for state in told for number in numbers]
    return told
