"""The errors of the package."""


class CoilError(ValueError):
    """The base class of all errors of the package."""


class BadPolynomial(CoilError):
    """A value is no polynomial, or is the polynomial 0 where that is not allowed."""


class BadFunction(CoilError):
    """A value is no function."""


class BadRatio(CoilError):
    """A value is no ratio, or is not one of the ratios that are allowed."""


class NoFunction(CoilError):
    """There is no function that is the answer."""


class TooLarge(CoilError):
    """The answer is a function of a degree above most."""

    def __init__(self, most):
        super().__init__(f"the degree is above {most}")
        self.most = most


class NotText(CoilError):
    """A value is no string."""


class InvalidText(CoilError):
    """A text is not that of a function; place tells where it goes wrong."""

    def __init__(self, place):
        super().__init__(f"the text is wrong at the place {place}")
        self.place = place


class BadNetwork(CoilError):
    """A value is no network; index is that of the first thing that is no part, or None if there is no such thing."""

    def __init__(self, index):
        super().__init__(f"no network (index {index})")
        self.index = index


class BadNode(CoilError):
    """A value is no node of the network, or is the same node where it must be another one."""


class BadNumber(CoilError):
    """A value is not one of the integers that are allowed."""


class BadKind(CoilError):
    """A thing is of a kind that is not allowed."""


class NotJoined(CoilError):
    """No row of parts joins the nodes."""


class BadPoint(CoilError):
    """A value is no point."""


class NotPositive(CoilError):
    """A function is not positive real."""


class BadPairs(CoilError):
    """A value is no pairs; index is that of the first thing that is no pair, or None if there is no such thing."""

    def __init__(self, index):
        super().__init__(f"no pairs (index {index})")
        self.index = index


class BadLadder(CoilError):
    """A value is no ladder; index is that of the first thing that is no rung, or None if there is no such thing."""

    def __init__(self, index):
        super().__init__(f"no ladder (index {index})")
        self.index = index


class NotLossless(CoilError):
    """A function is not lossless, or is 0 where that is not allowed."""


class TooManyNodes(CoilError):
    """The network would have more nodes than a network may have."""


class NotSimple(CoilError):
    """A function is not of resistors with one other kind of part, or is not of the kind that is asked for."""


class BadChain(CoilError):
    """A value is no chain; index is that of the first thing that is no function, or None if there is no such thing."""

    def __init__(self, index):
        super().__init__(f"no chain (index {index})")
        self.index = index


class BadFour(CoilError):
    """A value is no four functions; index is that of the first other thing, or None if there is no such thing."""

    def __init__(self, index):
        super().__init__(f"no four functions (index {index})")
        self.index = index


class NotReciprocal(CoilError):
    """A chain is not reciprocal."""


class NotSymmetric(CoilError):
    """A chain is not symmetric."""


class NotFilter(CoilError):
    """A ladder is no filter, or is none of the filters that are allowed."""


class BadPieces(CoilError):
    """A value is no pieces; index is that of the first thing that is no piece, or None if there is no such thing."""

    def __init__(self, index):
        super().__init__(f"no pieces (index {index})")
        self.index = index


class BadRung(CoilError):
    """A value is no rung that can be exchanged with a piece."""


class BadSteps(CoilError):
    """A value is no steps; index is that of the first thing that is no ratio, or None if there is no such thing."""

    def __init__(self, index):
        super().__init__(f"no steps (index {index})")
        self.index = index


class BadStep(CoilError):
    """A step has the size 1 or more."""


class NotFading(CoilError):
    """The answer in time of a function does not fade."""


class NotProper(CoilError):
    """The top of a function is of a greater degree than its bottom."""


class BadName(CoilError):
    """A value is no name, or is a name that is taken already."""


class BadPart(CoilError):
    """Values do not make a part."""


class Full(CoilError):
    """There are as many parts as there may be."""


class NoPart(CoilError):
    """There is no part of this name."""


class NothingToUndo(CoilError):
    """Everything was taken back already."""


class BadTerminals(CoilError):
    """A value is no terminals; index is that of the first wrong thing, or None if there is no such thing."""

    def __init__(self, index):
        super().__init__(f"no terminals (index {index})")
        self.index = index


class BadTable(CoilError):
    """A value is no table; index is that of the first thing that is no row, or None if there is no such thing."""

    def __init__(self, index):
        super().__init__(f"no table (index {index})")
        self.index = index


class TooManyParts(CoilError):
    """The network would have more parts than a network may have."""
