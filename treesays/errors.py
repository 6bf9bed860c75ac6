"""The errors of Treesays."""


class SayError(ValueError):
    """The base class of all errors of Treesays."""


class InvalidKind(SayError):
    """What should be a kind is none."""


class InvalidShape(SayError):
    """What should be a shape, or a label of one, is none."""


class InvalidSentence(SayError):
    """What should be a formula, a sentence or an expression is none that fits."""


class TooLarge(SayError):
    """What was asked for is larger than Treesays makes it."""


class NoSuchElement(SayError):
    """There is no element with this path, or no item at this place."""


class NoFunction(SayError):
    """A formula holds for no element or for several, where it should for one."""


class UnknownQuestion(SayError):
    """Nothing stands under this name."""


class SyntaxProblem(SayError):
    """A text cannot be read; `start` is where the reading fails."""

    def __init__(self, start):
        super().__init__(f"the text cannot be read from {start} on")
        self.start = start
