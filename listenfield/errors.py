"""The refusals.

Their words are fixed: a refusal may be made of any things, also of such as
have no words of their own.
"""


class FieldError(ValueError):
    """What is handed in is refused."""


class Wrong(FieldError):
    """The thing handed in at a place, counted from 0, isn't as told."""

    def __init__(self, at):
        """Keep the place."""
        super().__init__("a thing that was handed in isn't as told")
        self.at = at


class NoLog(FieldError):
    """The row at a place, counted from 0, isn't one that could be done."""

    def __init__(self, at):
        """Keep the place."""
        super().__init__("a row of the log can't be done")
        self.at = at


class TooMany(FieldError):
    """As many questions live as may live at most."""

    def __init__(self, most):
        """Keep how many may live."""
        super().__init__("as many questions live as may live")
        self.most = most


class NoNumber(FieldError):
    """No question of this number lives."""

    def __init__(self, number):
        """Keep the number."""
        super().__init__("no question of this number lives")
        self.number = number


class NoAnswer(FieldError):
    """There is no answer for this question and window."""

    def __init__(self, number, window):
        """Keep the question's number and the window."""
        super().__init__("there is no such answer")
        self.number = number
        self.window = window


class Narrow(FieldError):
    """The slots are too narrow for the guard."""

    def __init__(self):
        """Keep nothing."""
        super().__init__("twice the guard isn't less than a slot's width")


class Loose(FieldError):
    """The guard is too small for what the clocks may stray."""

    def __init__(self):
        """Keep nothing."""
        super().__init__("the clocks may stray by more than the guard")


class Unfit(FieldError):
    """The weather doesn't fit the terms."""

    def __init__(self):
        """Keep nothing."""
        super().__init__("the weather doesn't fit the terms")


class NoText(FieldError):
    """It is no text of a deed, or of terms."""

    def __init__(self):
        """Keep nothing."""
        super().__init__("it is no such text")


class NoRow(FieldError):
    """It is no row that a desk knows."""

    def __init__(self):
        """Keep nothing."""
        super().__init__("it is no row that a desk knows")
