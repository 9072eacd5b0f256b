"""The refusals: each has one class of its own, straight under MeetError."""


class MeetError(ValueError):
    """Any refusal of this program."""


class NoHouse(MeetError):
    """What was handed in as a house is none."""


class NoFloor(MeetError):
    """What was handed in as a floor is none of the house."""


class NoNumber(MeetError):
    """What was handed in as a number is none."""


class NoStanding(MeetError):
    """What was handed in as a standing is none of the house."""


class NoCompany(MeetError):
    """What was handed in as a company is none of the house."""


class NoMeeting(MeetError):
    """What was handed in as a meeting can't be next; `at` tells which it was."""

    def __init__(self, at):
        super().__init__("no meeting that can be next")
        self.at = at


class NotFair(MeetError):
    """The house is unfair; `paper` is the least paper that shows it."""

    def __init__(self, paper):
        super().__init__("an unfair house")
        self.paper = paper


class NotSure(MeetError):
    """Not all floors of the house stand by themselves."""


class TooMany(MeetError):
    """More people are in the house than are let; `many` tells how many they are."""

    def __init__(self, many):
        super().__init__("too many people in the house")
        self.many = many


class NoState(MeetError):
    """What was handed in as a state is none of the house."""


class NotLike(MeetError):
    """Houses or sizes that don't go together, or of which no house would come."""


class NoSeen(MeetError):
    """What was handed in as the floors that are seen is none."""


class NoName(MeetError):
    """What was handed in as a name is none, or nobody has it."""


class Taken(MeetError):
    """Somebody of this name came ahead."""


class Full(MeetError):
    """Nobody more can come to the party."""


class Nothing(MeetError):
    """Nothing is there that could be taken back."""


class NoLog(MeetError):
    """What was handed in as a log is none of the house."""


class NoText(MeetError):
    """What was handed in as a house's text is none."""


class NoRow(MeetError):
    """What was handed in as a desk's row is none."""
