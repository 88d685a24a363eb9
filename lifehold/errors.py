"""The refusals of the program."""


class HoldError(ValueError):
    """Something that is handed in can't be taken."""


class BadDay(HoldError):
    """A number that is no day, or days that are no span."""


class BadCount(HoldError):
    """A number of lives that isn't from 1 to 10."""


class BadTie(HoldError):
    """Too many ties, or one that is none."""


class CantBe(HoldError):
    """Ties that no way keeps."""


class BadRow(HoldError):
    """A row that is none."""


class BadName(HoldError):
    """A name that isn't 1 to 8 letters a to z."""


class Taken(HoldError):
    """A name that another one bears."""


class Full(HoldError):
    """There is no room for one more."""


class Twice(HoldError):
    """The life is in the row already."""


class GivenUp(HoldError):
    """The holding has an end."""


class Held(HoldError):
    """The life holds for certain on some day."""


class Idle(HoldError):
    """The day is none of the holding's run."""


class Against(HoldError):
    """A presentment that can't be with those of these numbers."""

    def __init__(self, numbers):
        super().__init__("it can't be with the others")
        self.numbers = list(numbers)


class BadText(HoldError):
    """A text of which the row with this number, from 0, is the first bad one."""

    def __init__(self, at):
        super().__init__(f"row {at}")
        self.at = at


class Missing(LookupError):
    """Something that is asked for isn't there."""


class NoLife(Missing):
    """There is no such life."""


class NoHolding(Missing):
    """There is no such holding."""


class NoPresentment(Missing):
    """There is no such presentment."""


class NoPlace(Missing):
    """There is no such place in the row."""


class Nothing(Missing):
    """There is nothing to take back, or to do again."""
