"""The errors of the package."""


class CoilError(ValueError):
    """The base class of all errors of the package."""


class BadPolynomial(CoilError):
    """A value is no polynomial, or is the polynomial 0 where that is not allowed."""


class BadFunction(CoilError):
    """A value is no function."""


class BadRatio(CoilError):
    """A value is no ratio, or is not one of the ratios that are allowed."""


class NoFunction(CoilError):
    """There is no function that is the answer."""


class TooLarge(CoilError):
    """The answer is a function of a degree above most."""

    def __init__(self, most):
        CoilError.__init__(self, f"the degree is above {most}")
        self.most = most


class NotText(CoilError):
    """A value is no string."""


class InvalidText(CoilError):
    """A text is not that of a function; place tells where it goes wrong."""

    def __init__(self, place):
        CoilError.__init__(self, f"the text is wrong at the place {place}")
        self.place = place
