"""The errors of the package."""


class AccordionsError(ValueError):
    """Any error that the package raises on purpose."""


class InvalidPlanError(AccordionsError):
    """A value is not a plan."""


class InvalidStateError(AccordionsError):
    """A value is not a state of the plan."""


class InvalidSectionError(AccordionsError):
    """A value is not a section of the plan, or the page where it may not be."""


class InvalidSectionsError(AccordionsError):
    """A value is not an ascending list of different sections."""


class InvalidClicksError(AccordionsError):
    """A value is not a click list of the plan."""


class InvalidViewsError(AccordionsError):
    """A value is not a list of views of the plan."""


class InvalidNumberError(AccordionsError):
    """A count or an index is not an integer in its range."""


class InvalidFormatError(AccordionsError):
    """A value is not a string in the form of a plan or a state."""


class NotFittingError(AccordionsError):
    """No state and no click list show these views."""


class EmptyHistoryError(AccordionsError):
    """A menu has no call left to undo."""


class HiddenError(AccordionsError):
    """The header of the click with the index `turn` is not visible."""

    def __init__(self, turn):
        super().__init__(f"the header of click {turn} is not visible")
        self.turn = turn
