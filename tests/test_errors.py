"""The refusals of the interface, and what they are made of."""

import unittest

from floormeet import errors

NAMES = (
    "NoHouse NoFloor NoNumber NoStanding NoCompany NoMeeting NotFair NotSure TooMany NoState "
    "NotLike NoSeen NoName Taken Full Nothing NoLog NoText NoRow"
).split()
FIELDS = {"NoMeeting": "at", "NotFair": "paper", "TooMany": "many"}


class Errors(unittest.TestCase):
    def test_meet_error_is_a_value_error(self):
        self.assertEqual(errors.MeetError.__bases__, (ValueError,))

    def test_each_is_straight_under_meet_error(self):
        self.assertEqual(len(NAMES), 19)
        for name in NAMES:
            refusal = getattr(errors, name)
            self.assertEqual(refusal.__bases__, (errors.MeetError,), name)
            self.assertEqual(refusal.__name__, name)

    def test_there_are_no_others(self):
        own = [name for name, what in vars(errors).items() if isinstance(what, type)]
        self.assertEqual(own, ["MeetError"] + NAMES)

    def test_fields(self):
        paper = (0, (0, 0, 1), [(0, 0, 0)], [(0, 0, 1)])
        self.assertEqual(errors.NoMeeting(0).at, 0)
        self.assertEqual(errors.NoMeeting(7).at, 7)
        self.assertEqual(errors.NoMeeting("ann").at, "ann")
        self.assertEqual(errors.NotFair(paper).paper, paper)
        self.assertEqual(errors.TooMany(10).many, 10)
        for name, field in FIELDS.items():
            refusal = getattr(errors, name)
            for thing in (0, None, (), [1], "a"):
                self.assertIs(getattr(refusal(thing), field), thing)

    def test_the_others_are_made_of_a_text(self):
        for name in NAMES:
            if name not in FIELDS:
                refusal = getattr(errors, name)
                with self.assertRaises(errors.MeetError) as caught:
                    raise refusal("why so")
                self.assertEqual(str(caught.exception), "why so")
                with self.assertRaises(ValueError):
                    raise refusal("why so")


if __name__ == "__main__":
    unittest.main()
