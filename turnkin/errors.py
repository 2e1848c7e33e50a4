"""The refusals of the package.

No message shows what was handed in: to show a thing runs its own code, which may fail.
"""


class HouseError(ValueError):
    """Any refusal."""


class BadSize(HouseError):
    """What should be a size is none."""


class BadTurning(HouseError):
    """What should be a turning is none, or is one of another size."""


class BadNumber(HouseError):
    """What should be a number is none, or is beyond those that there are."""


class BadPlace(HouseError):
    """What should be a place is none."""


class BadText(HouseError):
    """What should be the text of a turning is none."""


class BadFew(HouseError):
    """What should be a few turnings is none; place tells the first that is wrong."""

    def __init__(self, place):
        super().__init__("these are no few turnings")
        self.place = place


class BadStep(HouseError):
    """What should be steps is none; place tells the first that is wrong."""

    def __init__(self, place):
        super().__init__("these are no steps")
        self.place = place


class NotIn(HouseError):
    """The turning is not in the house; level tells where it falls."""

    def __init__(self, level):
        super().__init__("this turning is not in the house")
        self.level = level
