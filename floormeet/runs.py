"""Runs of meetings, the ends to which they lead, and how many of them lead to each end."""

from floormeet.errors import NoMeeting, TooMany
from floormeet.standings import can_meet, check_standing, coming, meetings_left, met, pairs

MOST_IN_FIRST_RUN = 60
MOST_IN_ENDS = 9
# How many people of a heap have one number is written in so many bits: enough for MOST_IN_ENDS.
COUNT_BITS = 4
COUNT_FULL = 15
# The most places of a Tally's long number: one of more takes longer than what it saves.
MOST_PLACES = 8000


def run(house, standing, row):
    """Tell the standing behind the run; NoMeeting, made of the first place that can't be next."""
    check_standing(house, standing)
    here, many = gone(house, standing, row)
    if many < len(row):
        raise NoMeeting(many)
    return here


def gone(house, standing, row):
    """Tell the standing where the row can't go on, and how many of its meetings lead there."""
    here = standing
    for at, meeting in enumerate(row):
        if not can_meet(here, meeting):
            return here, at
        here = met(house, here, meeting)
    return here, len(row)


def first_run(house, standing):
    """Tell the least run that leads to rest."""
    check_few(house, standing, MOST_IN_FIRST_RUN)
    told = []
    here = standing
    # Any meeting can be followed up to rest, always by as many: so the least one goes first.
    for _ in range(meetings_left(standing)):
        meeting = least_meeting(here)
        told.append(meeting)
        here = met(house, here, meeting)
    return told


def least_meeting(standing):
    """Tell the least meeting that can be next, None at rest."""
    for floor, counts in enumerate(standing[:-1]):
        if sum(counts) > 1:
            return (floor,) + pairs(counts)[0]
    return None


def ends(house, standing):
    """Tell all ends of the standing, rising."""
    check_few(house, standing, MOST_IN_ENDS)
    heaps = Heaps(house)
    # What becomes of a floor hangs on no floor above it. So every end is reached by a run in which
    # the meetings of each floor go ahead of those above: it is enough to go floor by floor.
    risen = {0: 1}
    unit = 1
    for floor, many in enumerate(coming(standing)):
        here = heaps.heap_of(standing[floor])
        layer = {here + heap: labels for heap, labels in risen.items()}
        for _ in range(many - 1):
            layer = heaps.next_layer(floor, layer)
        risen = {}
        for both, labels in layer.items():
            heap = both >> heaps.bits
            moved = labels << (unit * heaps.least_number(both & heaps.full))
            risen[heap] = risen.get(heap, 0) | moved
        unit *= heaps.m
    labels = list(risen.values())[0]
    told = [heaps.labelled_end(standing, label) for label in range(unit) if (labels >> label) & 1]
    return sorted(told)


def ways(house, standing):
    """Tell for each end of the standing, rising, how many runs lead to it."""
    check_few(house, standing, MOST_IN_ENDS)
    tally = Tally(house, standing)
    for _ in range(meetings_left(standing)):
        tally.go_on()
    found = tally.ends_here()
    return {end: found[end] for end in sorted(found)}


def check_few(house, standing, most):
    """Refuse what check_standing refuses, then a standing with more than most in the house."""
    check_standing(house, standing)
    many = people_in(standing)
    if many > most:
        raise TooMany(many)


def people_in(standing):
    """Tell how many people are in the house, those who are out not counted."""
    return sum([sum(counts) for counts in standing[:-1]])


def most_runs(standing):
    """Tell a number that is no less than that of all runs of the standing to rest."""
    m = len(standing[0])
    crowds = {tuple([sum(counts) for counts in standing[:-1]]): 1}
    told = 1
    for _ in range(meetings_left(standing)):
        crowds = next_crowds(crowds, m)
        told = max(told, sum(crowds.values()))
    return told


def next_crowds(crowds, m):
    """Tell how many people may stand on each floor a meeting later, and at most by how many runs."""
    told = {}
    for crowd, runs in crowds.items():
        for floor, many in enumerate(crowd):
            if many > 1:
                after = list(crowd)
                after[floor] -= 1
                if floor + 1 < len(crowd):
                    after[floor + 1] += 1
                key = tuple(after)
                choices = min(many * (many - 1), m * (m + 1)) // 2
                told[key] = told.get(key, 0) + runs * choices
    return told


class Heaps:
    """The people of a floor as one number, their heap: some bits tell how many have each number."""

    def __init__(self, house):
        self.house = house
        self.m = len(house[0][0])
        self.bits = COUNT_BITS * self.m
        self.full = (1 << self.bits) - 1
        self.ones = [1 << (COUNT_BITS * number) for number in range(self.m)]
        self.kept = {}

    def heap_of(self, counts):
        """Tell the heap of these counts."""
        return sum([many * one for many, one in zip(counts, self.ones)])

    def counts_of(self, heap):
        """Tell the counts of the heap."""
        return tuple([(heap // one) & COUNT_FULL for one in self.ones])

    def least_number(self, heap):
        """Tell the least number in the heap, 0 of nobody."""
        here = [number for number, many in enumerate(self.counts_of(heap)) if many]
        return min(here, default=0)

    def behind(self, floor, heap):
        """Tell for each meeting of two in the heap the heap that stays and the number that goes up."""
        key = (floor, heap)
        if key not in self.kept:
            self.kept[key] = self.work_out(floor, heap)
        return self.kept[key]

    def work_out(self, floor, heap):
        """Work out what behind tells."""
        told = []
        for a, b in pairs(self.counts_of(heap)):
            stay, up = self.house[floor]
            stays = heap - self.ones[a] - self.ones[b] + self.ones[stay[a][b]]
            # With which number somebody is out is never asked: there all are taken as alike.
            told.append((stays, up[a][b] if floor + 1 < len(self.house) else 0))
        return told

    def next_layer(self, floor, layer):
        """Tell what the floor's heaps, each with the heap gone up in its high bits, are a meeting later."""
        told = {}
        for both, labels in layer.items():
            here = both & self.full
            for stays, up in self.behind(floor, here):
                key = both - here + stays + (self.ones[up] << self.bits)
                told[key] = told.get(key, 0) | labels
        return told

    def labelled_end(self, standing, label):
        """Tell the end of the standing at which the label's figures, from the last on, rest."""
        resting = []
        for many in coming(standing):
            label, number = divmod(label, self.m)
            resting.append(self.ones[number] if many else 0)
        return self.end_with(standing, resting)

    def end_with(self, standing, resting):
        """Tell the end of the standing with these heaps on its floors."""
        rows = tuple([self.counts_of(heap) for heap in resting])
        at_rest = len([heap for heap in resting if heap])
        return rows + (standing[-1] + people_in(standing) - at_rest,)


class Tally:
    """A count of runs, meeting by meeting, at once over all standings to which they lead.

    Standings are kept in rows. A plain row is of so many on floor 0 and of one heap there; it leads
    the heaps of the floors above, side by side in one number, to how many runs lead there.

    Floor 0 hangs on no other floor. So once few stand there, they are taken for what is going to
    become of them: a word is the numbers with which they go up, one behind the other, and the number
    that rests. Each word has its place, some bits wide, in a long number; there stands by how many
    runs, with floor 0's meetings to come, the word comes. A worded row is of so many on floor 0 and
    of one heap on floor 1; it leads the heaps of the floors above to such a long number, and what
    happens on all these floors is gone through once for all words in it.
    """

    def __init__(self, house, standing):
        self.heaps = Heaps(house)
        self.floors = len(house)
        self.standing = standing
        self.bits = most_runs(standing).bit_length()
        # How many bits all words have that begin alike, by how many stand on floor 0.
        self.blocks = [0, 0]
        places = self.heaps.m
        while len(self.blocks) <= MOST_IN_ENDS and places * self.heaps.m <= MOST_PLACES:
            self.blocks.append(self.bits * places)
            places *= self.heaps.m
        self.kept_words = {}
        # By the lowest of the floors that are side by side: what is behind each meeting there.
        self.kept_behind = [{} for _ in range(3)]
        heaps = [self.heaps.heap_of(counts) for counts in standing[:-1]]
        self.plain = {(sum(standing[0]), heaps[0]): {self.side_by_side(heaps[1:]): 1}}
        self.worded = {}
        self.write_words()

    def side_by_side(self, heaps):
        """Tell these heaps as one number, the first in its lowest bits."""
        told = 0
        for heap in reversed(heaps):
            told = (told << self.heaps.bits) + heap
        return told

    def parted(self, heaps, many):
        """Tell the list of so many heaps that are side by side in the number."""
        return [(heaps >> (self.heaps.bits * k)) & self.heaps.full for k in range(many)]

    def one_on(self, floor, number):
        """Tell the heap of one who comes to the floor with this number, 0 of one who is out."""
        return self.heaps.ones[number] if floor < self.floors else 0

    def behind(self, lowest, heaps):
        """Tell what the heaps from the lowest floor on are behind each meeting of two of them."""
        told = []
        for k, here in enumerate(self.parted(heaps, self.floors - lowest)):
            shift = self.heaps.bits * k
            for stays, up in self.heaps.behind(lowest + k, here):
                risen = self.one_on(lowest + k + 1, up) << self.heaps.bits
                told.append(heaps + ((stays - here + risen) << shift))
        return told

    def words_of(self, lead, heap):
        """Tell the long number of the words of so many people on floor 0, of this heap."""
        if heap not in self.kept_words:
            told = 0
            if lead < 2:
                told = 1 << (self.bits * self.heaps.least_number(heap))
            else:
                for stays, up in self.heaps.behind(0, heap):
                    told += self.words_of(lead - 1, stays) << (self.blocks[lead] * up)
            self.kept_words[heap] = told
        return self.kept_words[heap]

    def write_words(self):
        """Make worded rows of the plain ones with few on floor 0."""
        # Below three floors so little happens above floor 0 that words would only take longer.
        few = [key for key in self.plain if key[0] < len(self.blocks) and self.floors > 2]
        for lead, heap in few:
            row = self.plain.pop((lead, heap))
            words = self.words_of(lead, heap)
            # Most of the row are the same few numbers, and to multiply a long number takes long.
            products = {}
            for above, runs in row.items():
                if runs not in products:
                    products[runs] = runs * words
                told = self.worded.setdefault((lead, above & self.heaps.full), {})
                far = above >> self.heaps.bits
                told[far] = told.get(far, 0) + products[runs]

    def go_on(self):
        """Put all standings that are a meeting later in the place of those that are here."""
        plain = {}
        for (lead, heap), row in self.plain.items():
            self.add_behind(1, row, plain.setdefault((lead, heap), {}))
            for stays, up in self.heaps.behind(0, heap):
                add_row(row, self.one_on(1, up), plain.setdefault((lead - 1, stays), {}))
        worded = {}
        for (lead, near), row in self.worded.items():
            self.add_behind(2, row, worded.setdefault((lead, near), {}))
            for stays, up in self.heaps.behind(1, near):
                add_row(row, self.one_on(2, up), worded.setdefault((lead, stays), {}))
            if lead > 1:
                for up, one in enumerate(self.heaps.ones):
                    self.add_words(lead, up, row, worded.setdefault((lead - 1, near + one), {}))
        self.plain = plain
        self.worded = worded
        self.write_words()

    def add_behind(self, lowest, row, told):
        """Add the row behind each meeting on the floors from the lowest on."""
        kept = self.kept_behind[lowest]
        for heaps, runs in row.items():
            if heaps not in kept:
                kept[heaps] = self.behind(lowest, heaps)
            for after in kept[heaps]:
                told[after] = told.get(after, 0) + runs

    def add_words(self, lead, up, row, told):
        """Add the row behind floor 0's next meeting in its words that begin with this number."""
        block = self.blocks[lead]
        full = (1 << block) - 1
        for far, words in row.items():
            part = (words >> (block * up)) & full
            if part:
                told[far] = told.get(far, 0) + part

    def ends_here(self):
        """Tell for each end how many runs lead to it, where nobody here can meet any more."""
        told = {}
        for (_, heap), row in self.plain.items():
            for above, runs in row.items():
                heaps = [heap] + self.parted(above, self.floors - 1)
                told[self.heaps.end_with(self.standing, heaps)] = runs
        full = (1 << self.bits) - 1
        for (lead, near), row in self.worded.items():
            for far, words in row.items():
                for number, one in enumerate(self.heaps.ones):
                    runs = (words >> (self.bits * number)) & full
                    if runs:
                        heaps = [one if lead else 0, near] + self.parted(far, self.floors - 2)
                        told[self.heaps.end_with(self.standing, heaps)] = runs
        return told


def add_row(row, step, told):
    """Add the row to another one, its heaps raised by the step."""
    for heaps, runs in row.items():
        after = heaps + step
        told[after] = told.get(after, 0) + runs
