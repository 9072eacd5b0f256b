"""[20]: houses as texts."""

import time
import unittest

from floormeet.errors import NoHouse, NoText
from floormeet.texts import read_house, show_house
from tests.makers import SIZES, SORTER, counting_floor, made_house, other_kinds, plain_floor, sorting_floor
from tests.test_states import NO_HOUSES

SIGNS = [chr(code) for code in range(32, 127) if chr(code) != "%"] + ["\n"]


def changed_by_one_sign(text):
    """All texts with one sign more, one fewer, or one other than the text."""
    for at in range(len(text) + 1):
        for sign in SIGNS:
            yield text[:at] + sign + text[at:]
            if at < len(text) and sign != text[at]:
                yield text[:at] + sign + text[at + 1:]
        if at < len(text):
            yield text[:at] + text[at + 1:]


class Show(unittest.TestCase):
    def test_written_out(self):
        self.assertEqual(show_house((plain_floor(1, 0, 0),)), "stay 0\nup 0\n")
        self.assertEqual(show_house(SORTER), "stay 0 1 1 1\nup 0 0 0 1\n" * 2)
        self.assertEqual(
            show_house((counting_floor(3), sorting_floor(3))),
            "stay 0 1 2 1 2 0 2 0 1\nup 0 0 0 0 0 1 0 1 1\n"
            "stay 0 1 2 1 1 2 2 2 2\nup 0 0 0 0 1 1 0 1 2\n")

    def test_all_sizes(self):
        for m, floors in SIZES:
            house = made_house(m, floors, 7)
            rows = show_house(house).split("\n")
            self.assertEqual(rows.pop(), "")
            self.assertEqual([row.split(" ")[0] for row in rows], ["stay", "up"] * floors)
            tables = [table for tables in house for table in tables]
            for row, table in zip(rows, tables):
                self.assertEqual(row.split(" ")[1:], [str(number) for line in table for number in line])

    def test_no_house(self):
        for thing in NO_HOUSES:
            with self.assertRaises(NoHouse):
                show_house(thing)


class Read(unittest.TestCase):
    def test_what_is_shown(self):
        for m, floors in SIZES:
            for seed in range(10):
                house = made_house(m, floors, seed)
                self.assertEqual(read_house(show_house(house)), house)

    def test_written_out(self):
        self.assertEqual(read_house("stay 1 1 1 0\nup 0 1 1 0\n"), ((((1, 1), (1, 0)), ((0, 1), (1, 0))),))

    def test_otherwise_by_one_sign(self):
        for house in ((plain_floor(1, 0, 0),), SORTER, made_house(3, 1), (sorting_floor(2),)):
            text = show_house(house)
            for other in changed_by_one_sign(text):
                # A number on the middle line may be another one: then it is another house's text.
                if not self.is_another(text, other):
                    with self.assertRaises(NoText, msg=other):
                        read_house(other)

    def is_another(self, text, other):
        try:
            house = read_house(other)
        except NoText:
            return False
        self.assertEqual(show_house(house), other)
        self.assertEqual(len(other), len(text))
        at = [one != two for one, two in zip(text, other)].index(True)
        return text[at] in "012345" and other[at] in "012345"

    def test_otherwise(self):
        right = "stay 0 1 1 1\nup 0 0 0 1\n"
        read_house(right)
        wrong = [
            "", "\n", " ", "stay\nup\n", "stay \nup \n", right[:-1], right + "\n", "\n" + right, right + " ", " " + right,
            right.replace("\n", "\r\n"), right.replace(" ", "  "), right.replace("\n", " \n"), right.replace("\n", ";"),
            right.upper(), "Stay 0 1 1 1\nup 0 0 0 1\n", "stay 0 1 1 1\nUp 0 0 0 1\n", "up 0 0 0 1\nstay 0 1 1 1\n",
            "stay 0 1 1 1\nstay 0 0 0 1\n", "up 0 1 1 1\nup 0 0 0 1\n", "stay 0 1 1 1\n", "up 0 0 0 1\n",
            right + "stay 0 1 1 1\n", right * 5, right * 8, "stay 00 1 1 1\nup 0 0 0 1\n", "stay 0 01 1 1\nup 0 0 0 1\n",
            "stay +0 1 1 1\nup 0 0 0 1\n", "stay -0 1 1 1\nup 0 0 0 1\n", "stay 0 1 1 2\nup 0 0 0 1\n",
            "stay 0 1 0 1\nup 0 0 0 1\n", "stay 0 1 1 -1\nup 0 0 0 1\n", "stay 0 1 1\nup 0 0 0\n", "stay 0 1\nup 0 0\n",
            "stay 0 1 1 1 1\nup 0 0 0 1\n", "stay 0 1 1 1\nup 0 0 0 1 0\n", "stay 0 1 1 1\nup 0\n", "stay 0\nup 0 0 0 1\n",
            "stay 0 1 1 1\nup 0 0 0 1\nstay 0\nup 0\n", "stay 0,1,1,1\nup 0,0,0,1\n", "stay (0 1 1 1)\nup 0 0 0 1\n",
            "stay 0111\nup 0001\n", "stay0 1 1 1\nup0 0 0 1\n", "stay a b b b\nup a a a b\n", "stay\t0 1 1 1\nup 0 0 0 1\n",
            "stay 0 1 1 1 \nup 0 0 0 1\n", "house stay 0\nup 0\n", "stay 0\nup 0", "stay 0;up 0", "stay 1\nup 0\n",
            "stay 0\nup 0\n\nstay 0\nup 0\n", "stay 0\nup 0\n\n", "stay 0 up 0\n", "0\n0\n", " 0\n 0\n",
            "stay " + "0 " * 48 + "0\nup " + "0 " * 48 + "0\n", "stay 0\n" * 700, "0 " * 2500, "\n" * 5000, " " * 5000,
        ]
        for text in wrong:
            with self.assertRaises(NoText, msg=text):
                read_house(text)
        # Six numbers are the most, and in the greatest table each of them may stand.
        read_house("stay " + " ".join("0" * 36) + "\nup " + " ".join("5" * 36) + "\n")
        with self.assertRaises(NoText):
            read_house("stay " + " ".join("0" * 36) + "\nup " + " ".join("6" * 36) + "\n")

    def test_no_text(self):
        for thing in other_kinds() + [SORTER, ["stay 0\nup 0\n"], ("stay 0\nup 0\n",), b"stay 0\nup 0\n"]:
            with self.assertRaises(NoText):
                read_house(thing)

    def test_soon(self):
        for text in (show_house(made_house(6, 4)), "stay " + "0 " * 2490, "stay 0\nup 0\n" * 400, "\n" * 5000):
            start = time.perf_counter()
            try:
                read_house(text)
            except NoText:
                pass
            self.assertLess(time.perf_counter() - start, 0.5)


if __name__ == "__main__":
    unittest.main()
