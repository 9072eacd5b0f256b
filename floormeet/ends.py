"""Ends of any standings of fair houses, and who comes to each floor, however many people there are."""

from floormeet.errors import NotSure
from floormeet.fair import check_fair, floor_kinds
from floormeet.standings import check_standing


def end_of(house, standing):
    """Tell the one end of any standing of a fair house."""
    check_fair(house)
    check_standing(house, standing)
    return brought_to_rest(house, standing)


def brought_to_rest(house, standing):
    """Tell the end of what is known to be a standing of a fair house."""
    rows = []
    rising = [0] * len(standing[0])
    for tables, counts in zip(house, standing[:-1]):
        here = [many + more for many, more in zip(counts, rising)]
        rising = meet_all(tables, here)
        rows.append(tuple(here))
    return tuple(rows) + (standing[-1] + sum(rising),)


def comings(house, standing):
    """Tell floor by floor how many people ever come there with each number."""
    check_sure(house)
    check_standing(house, standing)
    told = []
    rising = [0] * len(standing[0])
    for tables, counts in zip(house, standing[:-1]):
        here = [many + more for many, more in zip(counts, rising)]
        told.append(list(here))
        rising = meet_all(tables, here)
    return told


def check_sure(house):
    """Refuse what check_fair refuses, then a house not all of whose floors stand by themselves."""
    check_fair(house)
    for kind in floor_kinds(house):
        if kind != "stands":
            raise NotSure("a house was due all of whose floors stand by themselves")


def meet_all(tables, here):
    """Let all on a floor meet till at most one is left in these counts; tell the counts of who go up."""
    stay, up = tables
    rising = [0] * len(here)
    while sum(here) > 1:
        # As no order matters, half of all who have one number meet the other half at once.
        for number, row in enumerate(stay):
            twos = here[number] // 2
            here[number] -= 2 * twos
            here[row[number]] += twos
            rising[up[number][number]] += twos
        left = [number for number, many in enumerate(here) if many]
        if len(left) > 1:
            a, b = left[:2]
            here[a] -= 1
            here[b] -= 1
            here[stay[a][b]] += 1
            rising[up[a][b]] += 1
    return rising
