"""A desk: it answers rows about a house and about a party of it."""

from floormeet.ends import end_of
from floormeet.errors import NoRow, NoText
from floormeet.fair import check_fair, floor_kinds, paper
from floormeet.party import Party
from floormeet.standings import standing_of
from floormeet.states import least_company, resting
from floormeet.texts import read_house

HOUSE = "house "
NOBODY = "-"
MOST_FIGURES = 19


class Desk:
    """A desk with a house and a party of it, at first with none."""

    def __init__(self):
        self.house = None
        self.party = None

    def say(self, row):
        """Answer the row."""
        if not isinstance(row, str):
            raise NoRow("a text was due")
        if row.startswith(HOUSE):
            return self.begin(row[len(HOUSE):])
        words = row.split(" ")
        if self.house is None or "\n" in row or "" in words or words[0] not in ANSWERS:
            raise NoRow("a row was due that can be answered here")
        answer = ANSWERS[words[0]]
        return answer(self.house, self.party, words[1:])

    def begin(self, text):
        """Take the house that is written in one row, and a party of nobody."""
        # A house's rows end by line feeds in its text, here not even the last one has one.
        if "\n" in text:
            raise NoText("the text of a house in one row was due")
        house = read_house(text.replace(";", "\n") + "\n")
        self.house = house
        self.party = Party(house)
        return "ok"


def answer_come(_, party, words):
    """Answer a row of somebody who comes."""
    check_many(words, 3)
    number = number_in(words[1])
    party.come(words[0], number, floor=number_in(words[2]))
    return "ok"


def answer_back(_, party, words):
    """Answer a row that takes the last thing back."""
    check_many(words, 0)
    party.back()
    return "ok"


def answer_meet(_, party, words):
    """Answer a row of two who meet."""
    check_many(words, 2)
    return " ".join([str(number) for number in party.meet(words[0], words[1])])


def answer_settle(_, party, words):
    """Answer a row that lets all meet to rest."""
    check_many(words, 0)
    return ";".join([" ".join(pair) for pair in party.settle()])


def answer_where(house, party, words):
    """Answer a row that asks where somebody is."""
    check_many(words, 1)
    floor, number = party.where(words[0])
    if floor == len(house):
        return f"out {number}"
    return f"{floor} {number}"


def answer_rest(_, party, words):
    """Answer a row that asks who will be at rest."""
    check_many(words, 0)
    return " ".join([NOBODY if name is None else name for name in party.rest_names()])


def answer_fair(house, _, words):
    """Answer a row that asks whether the house is fair."""
    check_many(words, 0)
    shown = paper(house)
    if shown is None:
        return "fair"
    floor, three = shown[:2]
    return " ".join([str(number) for number in (floor,) + three])


def answer_kinds(house, _, words):
    """Answer a row that asks of what kind the floors are."""
    check_many(words, 0)
    return " ".join(floor_kinds(house))


def answer_end(house, _, words):
    """Answer a row that asks for the end of a company."""
    company = tuple([number_in(word) for word in words])
    check_fair(house)
    end = end_of(house, standing_of(house, company))
    return " ".join([NOBODY if number is None else str(number) for number in resting(end)])


def answer_least(house, _, words):
    """Answer a row that asks for the least company of a state."""
    state = tuple([None if word == NOBODY else number_in(word) for word in words])
    company = least_company(house, state)
    if company is None:
        return "never"
    return " ".join([str(many) for many in company])


def check_many(words, many):
    """Refuse a row with more or fewer words behind its first one."""
    if len(words) != many:
        raise NoRow(f"{many} words were due behind the first one")


def number_in(word):
    """Tell the number that is written in the word by its figures."""
    if not 1 <= len(word) <= MOST_FIGURES or (word[0] == "0" and word != "0"):
        raise NoRow("a number by its figures was due")
    for sign in word:
        if not "0" <= sign <= "9":
            raise NoRow("a number by its figures was due")
    return int(word)


ANSWERS = {
    "come": answer_come,
    "back": answer_back,
    "meet": answer_meet,
    "settle": answer_settle,
    "where": answer_where,
    "rest": answer_rest,
    "fair": answer_fair,
    "kinds": answer_kinds,
    "end": answer_end,
    "least": answer_least,
}
