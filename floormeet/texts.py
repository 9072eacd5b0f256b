"""Houses as texts: a row for each table, its numbers by their figures."""

from floormeet.errors import NoText
from floormeet.houses import WORDS, is_house, size

FIGURES = ("0", "1", "2", "3", "4", "5")


def show_house(house):
    """Tell the house's text."""
    size(house)
    return written(house)


def written(house):
    """Tell the text of what is known to be a house."""
    rows = []
    for tables in house:
        for word, table in zip(WORDS, tables):
            numbers = [str(number) for row in table for number in row]
            rows.append(" ".join([word] + numbers) + "\n")
    return "".join(rows)


def read_house(text):
    """Tell the house whose text this is."""
    if not isinstance(text, str):
        raise NoText("a text was due")
    tables = [table_in(row.split(" ")[1:]) for row in text.split("\n")[:-1]]
    house = tuple([tuple(tables[at:at + 2]) for at in range(0, len(tables), 2)])
    # All that a house's text has beside its numbers is looked at by writing it anew.
    if not is_house(house) or written(house) != text:
        raise NoText("the text of a house was due")
    return house


def table_in(words):
    """Tell the table of so many numbers, or rows of what is no house's table."""
    numbers = [FIGURES.index(word) if word in FIGURES else -1 for word in words]
    m = len([many for many in range(1, len(FIGURES) + 1) if many * many <= len(numbers)])
    return tuple([tuple(numbers[at * m:(at + 1) * m]) for at in range(m)])
