"""The refusals of wholecut, each of which is a CutError and a ValueError."""


class CutError(ValueError):
    """Any refusal."""


class BadProblem(CutError):
    """Tops, rows and a gain that are no problem."""


class BadPoint(CutError):
    """A thing that is no point of the problem."""


class BadBox(CutError):
    """A thing that is no box of the problem."""


class BadWeights(CutError):
    """A thing that is no weights for the facts of the box."""


class NoTurn(CutError):
    """A number of a table that is nought, about which nothing is turned."""


class BadText(CutError):
    """A thing that is no text of a row."""
