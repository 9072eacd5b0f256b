"""Parties: named people in a house who come, meet, settle, and of whom the last thing done is taken back."""

from floormeet.checks import is_tuple_of, is_up_to
from floormeet.errors import Full, MeetError, NoFloor, NoLog, NoMeeting, NoName, NoNumber, Nothing, Taken
from floormeet.houses import size

MOST_PEOPLE = 60
MOST_SIGNS = 8


class Party:
    """A house and the named people who came to it."""

    def __init__(self, house):
        self.m, self.floors = size(house)
        self.house = house
        # By name (floor, number); floor is how many floors there are for one who is out.
        self.places = {}
        self.rows = []
        # Ahead of each thing done: how many rows the log had, and who was where.
        self.kept = []

    def come(self, name, number, *, floor=0):
        """Let one of this name come in with the number on the floor."""
        if not is_name(name):
            raise NoName("a name of one to eight small letters was due")
        if name in self.places:
            raise Taken("one of this name came ahead")
        if not is_up_to(number, self.m - 1):
            raise NoNumber("a number of the house was due")
        if not is_up_to(floor, self.floors - 1):
            raise NoFloor("a floor of the house was due")
        if len(self.places) >= MOST_PEOPLE:
            raise Full("no more than sixty come")
        self.keep()
        self.places[name] = (floor, number)
        self.rows.append(("come", name, number, floor))

    def meet(self, name, other):
        """Let two on one floor meet; tell both new numbers, first of who stays, then of who goes up."""
        if not self.are_together(name, other):
            raise NoMeeting(name)
        self.keep()
        return self.let_meet(min(name, other), max(name, other))

    def settle(self):
        """Let all meet to rest, the least two on the lowest floor each time; tell the twos who met."""
        self.keep()
        told = []
        for floor in range(self.floors):
            # The least name of all on a floor stays at each meeting, and meets the others in their order.
            names = self.names_on(floor)
            for other in names[1:]:
                self.let_meet(names[0], other)
                told.append((names[0], other))
        return told

    def back(self):
        """Take back the last coming, meeting or settling."""
        if not self.kept:
            raise Nothing("nothing is there that could be taken back")
        many, places = self.kept.pop()
        self.places = places
        self.rows = self.rows[:many]

    def where(self, name):
        """Tell (floor, number) of one who came, floor how many floors the house has for one who is out."""
        if not is_name(name) or name not in self.places:
            raise NoName("the name of one who came was due")
        return self.places[name]

    def standing(self):
        """Tell the standing of all who came."""
        counts = [[0] * self.m for _ in range(self.floors + 1)]
        for floor, number in self.places.values():
            counts[floor][number] += 1
        return tuple([tuple(row) for row in counts[:-1]]) + (sum(counts[-1]),)

    def rest_names(self):
        """Tell floor by floor the name of who will stand there at rest, None of nobody."""
        told = []
        rising = []
        for floor in range(self.floors):
            # Whoever comes to a floor, all but the least name of them go up, in whatever order they meet.
            here = sorted(rising + self.names_on(floor))
            told.append(here[0] if here else None)
            rising = here[1:]
        return told

    def log(self):
        """Tell all comings and meetings in their order."""
        return list(self.rows)

    def __len__(self):
        """Tell how many are in the house."""
        return len([name for name in self.places if self.places[name][0] < self.floors])

    def keep(self):
        """Keep what is here, ahead of a thing that is going to be done."""
        self.kept.append((len(self.rows), {name: self.places[name] for name in self.places}))

    def are_together(self, name, other):
        """Tell of anything whether it is the names of two who stand on one floor."""
        if not is_name(name) or not is_name(other) or name == other:
            return False
        if name not in self.places or other not in self.places:
            return False
        floor = self.places[name][0]
        return floor == self.places[other][0] and floor < self.floors

    def let_meet(self, name, other):
        """Let two on one floor meet, the lesser name ahead; tell both new numbers."""
        floor, a = self.places[name]
        b = self.places[other][1]
        stay, up = self.house[floor]
        self.places[name] = (floor, stay[a][b])
        self.places[other] = (floor + 1, up[a][b])
        self.rows.append(("meet", name, other))
        return (stay[a][b], up[a][b])

    def names_on(self, floor):
        """Tell the names of all who stand on the floor, rising."""
        return sorted([name for name in self.places if self.places[name][0] == floor])


def is_name(thing):
    """Tell of anything whether it is a name: a text of one to eight small letters."""
    if not isinstance(thing, str) or not 1 <= len(thing) <= MOST_SIGNS:
        return False
    for sign in thing:
        if not "a" <= sign <= "z":
            return False
    return True


def party_of(house, log):
    """Tell a party of the house to which all in the log was done, meeting by meeting."""
    party = Party(house)
    if not isinstance(log, list):
        raise NoLog("a list was due")
    for row in log:
        try:
            do_row(party, row)
        except MeetError:
            raise NoLog("a row was due that a party's log has here") from None
    return party


def do_row(party, row):
    """Do to the party what a log's row tells; refuse what is no such row."""
    if is_row_of(row, "come", 4):
        _, name, number, floor = row
        party.come(name, number, floor=floor)
    elif is_row_of(row, "meet", 3):
        _, name, other = row
        if not is_name(name) or not is_name(other) or name > other:
            raise NoLog("two names were due, the lesser one ahead")
        party.meet(name, other)
    else:
        raise NoLog("a coming or a meeting was due")


def is_row_of(thing, word, many):
    """Tell of anything whether it is a tuple of so many things, this word ahead of all."""
    return is_tuple_of(thing, many) and isinstance(thing[0], str) and thing[0] == word
