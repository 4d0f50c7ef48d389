"""What several tests need."""

import random
import unittest
from fractions import Fraction

from coilnets import chains, functions, solving

LIMIT = 10 ** 60

# Values of each kind that a caller may pass; none of them is of any kind that the package knows.
ODDITIES = (None, True, False, 0, 1, -3, "", "s", (), [], {}, [1, 2], (1, 2, 3), ((),), {"a": (1,)}, [(1,), (1,)],
            (None, None), ("1", "2"), ((1,), (1,), (1,)))

BAD_RATIOS = (None, True, 0, 1, "1", "ab", (), (1,), (1, 1, 1), [1, 2], {1: 2}, (1, 0), (0, 0), (0, 2), (2, 4), (3, 3),
              (1, -2), (-1, -2), (True, 1), (1, True), (False, 1), (None, 1), ("1", 1), (1, "2"), ((1,), 2), ([1], 2),
              (LIMIT + 1, 1), (-LIMIT - 1, 1), (1, LIMIT + 1))

BAD_POSITIVES = BAD_RATIOS + ((0, 1), (-1, 1), (-2, 3), (-LIMIT, 1))

BAD_POLYNOMIALS = (None, True, 0, 5, "", "s", [], [1], {}, {0: 1}, (0,), (1, 0), (0, 0), (True,), (1, True), (False, 1),
                   (None,), ("1",), (1, "s"), ((1,),), ([],), (LIMIT + 1,), (1, -LIMIT - 1), (LIMIT + 1, 1),
                   (1,) * 14, (0,) * 13 + (1,))

BAD_FUNCTIONS = ODDITIES + (
    (1, 1), (1, (1,)), ((1,), 1), ((1,), None), (None, (1,)), ([1], (1,)), ((1,), [1]), [(), (1,)],
    ((1,), ()), ((), ()), ((), (2,)), ((), (-1,)), ((), (0, 1)),
    ((1,), (-1,)), ((1,), (1, -1)), ((2,), (2,)), ((2, 2), (4,)), ((0, 2), (2, 4)),
    ((0, 1), (0, 1)), ((0, 1), (0, 2)), ((1, 1), (1, 1)), ((1, 2, 1), (1, 0, -1)), ((-1, 0, 1), (1, 1)),
    ((0,), (1,)), ((1, 0), (1,)), ((1,), (1, 0)), ((True,), (1,)), ((1,), (True,)), ((), (True,)), ((1,), (1, True)),
    ((1, 2),), (((1,), (1,)), ((1,), (1,))), ((LIMIT + 1,), (1,)), ((1,), (LIMIT + 1,)), ((1,), (1,) * 14),
    ((0,) * 13 + (1,), (1,)),
)

ZERO = ((), (1,))
ONE = ((1,), (1,))
S = ((0, 1), (1,))


class CoilTest(unittest.TestCase):
    """A test with a few words of its own."""

    def raises(self, error, call, *arguments):
        """The error that a call raises, which must be of this very class."""
        with self.assertRaises(error) as caught:
            call(*arguments)
        self.assertIs(type(caught.exception), error, arguments)
        return caught.exception


def as_fraction(ratio):
    return Fraction(*ratio)


def as_ratio(fraction):
    return fraction.numerator, fraction.denominator


def power(degree):
    """The function s to a power."""
    return (0,) * degree + (1,), (1,)


def product_of(*polynomials):
    answer = [1]
    for polynomial in polynomials:
        longer = [0] * (len(answer) + len(polynomial) - 1)
        for at, one in enumerate(answer):
            for by, other in enumerate(polynomial):
                longer[at + by] += one * other
        answer = longer
    return tuple(answer)


def value_of(polynomial, fraction):
    return sum((coefficient * fraction ** at for at, coefficient in enumerate(polynomial)), Fraction(0))


def quotient_at(one, fraction):
    """The value of a function, None at a pole, worked out by itself."""
    below = value_of(one[1], fraction)
    return None if below == 0 else value_of(one[0], fraction) / below


def some_polynomial(source, degree, size):
    numbers = [source.randint(-size, size) for _ in range(source.randint(0, degree) + 1)]
    while numbers and numbers[-1] == 0:
        numbers.pop()
    return tuple(numbers)


def some_functions(seed, many, degree, size):
    """Functions that are the same in each run."""
    source = random.Random(seed)
    answer = []
    while len(answer) < many:
        bottom = some_polynomial(source, degree, size)
        if bottom:
            answer.append(functions.function(some_polynomial(source, degree, size), bottom))
    return answer


R1 = ("R", 0, 1, (1, 1))

# Values that are no networks, with the index that BadNetwork tells.
BAD_NETWORKS = tuple([(value, None) for value in ODDITIES]) + (
    ((2,), None), ((2, (), ()), None), ([2, ()], None), ((2, [R1]), None), ((2, [])[::-1], None), ((2, None), None),
    ((2, "R"), None), ((2, {}), None), ((0, ()), None), ((-1, ()), None), ((9, ()), None), ((True, ()), None),
    ((None, ()), None), (("2", ()), None), (((2, 1), ()), None), ((2, (R1,) * 15), None), ((9, (None,)), None),
    ((2, (None,) * 15), None),
    ((1, (R1,)), 0), ((2, ("R", 0, 1, (1, 1))), 0), ((2, (R1, R1, None, 5)), 2), ((2, (R1,) * 13 + (7,)), 13),
) + tuple([((2, (R1, part, None)), 1) for part in (
    None, True, 3, "R", (), [], {}, ("R",), ("R", 0, 1), ("R", 0, 1, (1, 1), 1), list(R1), [("R", 0, 1, (1, 1))],
    ("r", 0, 1, (1, 1)), ("", 0, 1, (1, 1)), ("RL", 0, 1, (1, 1)), ("G", 0, 1, (1, 1)), (None, 0, 1, (1, 1)),
    (1, 0, 1, (1, 1)), (["R"], 0, 1, (1, 1)), (("R",), 0, 1, (1, 1)),
    ("R", 0, 0, (1, 1)), ("R", 1, 1, (1, 1)), ("R", 0, 2, (1, 1)), ("R", -1, 1, (1, 1)), ("R", 2, 0, (1, 1)),
    ("R", 0, -1, (1, 1)), ("R", False, 1, (1, 1)), ("R", 0, True, (1, 1)), ("R", None, 1, (1, 1)),
    ("R", 0, "1", (1, 1)), ("R", 0, (1,), (1, 1)), ("R", [0], 1, (1, 1)),
    ("R", 0, 1, ((1,), (1,))), ("L", 0, 1, ((1,), (1,))), ("C", 0, 1, ((0, 1), (1,))),
    ("Z", 0, 1, (1, 1)), ("Z", 0, 1, ZERO), ("Z", 0, 0, ONE), ("Z", 0, 2, ONE),
)]) + tuple([((2, (R1, (kind, 1, 0, worth))), 1) for kind in "RLC" for worth in BAD_POSITIVES]) + tuple(
    [((2, (R1, ("Z", 1, 0, worth))), 1) for worth in BAD_FUNCTIONS])

RUNG = ("S", "L", (1, 1))

# Values that are no ladders, with the index that BadLadder tells.
BAD_RUNGS = ODDITIES + (("S",), ("S", "L"), ("S", "L", (1, 1), 1), list(RUNG), "SLR", {"S": "L"}, ("X", "L", (1, 1)),
                        ("s", "L", (1, 1)), ("", "L", (1, 1)), (None, "L", (1, 1)), (("S",), "L", (1, 1)),
                        (["S"], "L", (1, 1)), ("SP", "L", (1, 1)), ("S", "Z", ONE), ("P", "Z", (1, 1)),
                        ("S", "G", (1, 1)), ("S", "r", (1, 1)), ("S", "", (1, 1)), ("S", "LC", (1, 1)),
                        ("S", None, (1, 1)), ("S", ["L"], (1, 1)), ("S", {}, (1, 1)), ("L", "S", (1, 1)),
                        ("S", "R", ONE)) + tuple([("P", "C", value) for value in BAD_POSITIVES])
BAD_LADDERS = tuple([(value, None) for value in ODDITIES if not isinstance(value, tuple) or value == ()]) + (
    ([RUNG], None), ({0: RUNG}, None), ("SP", None), ((RUNG,) * 14, None), ((None,) * 14, None),
    (RUNG, 0), ((RUNG,) * 12 + (None,), 12), ((RUNG, RUNG, 3, None), 2)) + tuple(
        [((value,), 0) for value in BAD_RUNGS]) + tuple([((RUNG, value, None), 1) for value in BAD_RUNGS])

BAD_POINTS = ODDITIES + ((1, 1), ((1, 1),), ((1, 1), (1, 1), (1, 1)), [(1, 1), (1, 1)], {(1, 1): (1, 1)}, "xy") + tuple(
    [(value, (1, 1)) for value in BAD_RATIOS]) + tuple([((1, 1), value) for value in BAD_RATIOS])

BAD_NODES = (None, True, False, -1, 8, 10 ** 30, "0", "", (), (0,), [], [0], {}, {0: 0})


def some_network(source, nodes, parts, kinds="RLC"):
    """A network whose nodes are all joined, if it has parts enough."""
    made = []
    for at in range(parts):
        a = at + 1 if at + 1 < nodes else source.randrange(nodes)
        b = source.randrange(a) if at + 1 < nodes else source.choice([node for node in range(nodes) if node != a])
        if source.random() < 0.5:
            a, b = b, a
        made.append((source.choice(kinds), a, b, as_ratio(Fraction(source.randint(1, 9), source.randint(1, 4)))))
    return nodes, tuple(made)


def admittance_at(part, place):
    """The admittance of a part at a fraction, worked out by itself."""
    kind, _, _, worth = part
    if kind == "Z":
        return 1 / quotient_at(worth, place)
    return {"R": 1, "L": 1 / place, "C": place}[kind] * (Fraction(*worth) if kind == "C" else 1 / Fraction(*worth))


def sum_of(functions_to_add):
    """The sum of functions, worked out without a limit of their degrees between."""
    top, bottom = (), (1,)
    for one in functions_to_add:
        left, right = product_of(top, one[1]), product_of(one[0], bottom)
        many = max(len(left), len(right))
        sums = [(left[at] if at < len(left) else 0) + (right[at] if at < len(right) else 0) for at in range(many)]
        while sums and sums[-1] == 0:
            sums.pop()
        top, bottom = tuple(sums), product_of(bottom, one[1])
    return functions.function(top, bottom)


def tank(limit, square, under=1):
    """The function limit s / (s s + square / under)."""
    return functions.function((0, limit * under), (square, 0, under))


def parts_at(one, x, y):
    """The real part and the other part of the value of a function at x + i y, None at a pole, worked out by itself."""
    (a, b), (c, d) = [_parts_of(polynomial, x, y) for polynomial in one]
    size = c * c + d * d
    return None if size == 0 else ((a * c + b * d) / size, (b * c - a * d) / size)


def _parts_of(polynomial, x, y):
    real, other = Fraction(0), Fraction(0)
    for coefficient in reversed(polynomial):
        real, other = real * x - other * y + coefficient, real * y + other * x
    return real, other


def some_impedances(seed, many, most_nodes=4, most_parts=6, kinds="RLC"):
    """Impedances of networks, the same in each run."""
    source = random.Random(seed)
    answer = []
    while len(answer) < many:
        nodes = source.randint(2, most_nodes)
        network = some_network(source, nodes, source.randint(nodes - 1, most_parts), kinds)
        answer.append(solving.impedance(network, 0, 1))
    return answer


TOUCHING = ((1, 1, 1), (4, 1, 1))
LOSSLESS_12 = sum_of([S, ((3,), (0, 1))] + [tank(k, k) for k in (1, 2, 3, 4, 5)])
POSITIVE_12 = sum_of([((2,), (1,)), S, ((1,), (0, 2)), tank(1, 2), tank(5, 3, 7)]
                     + [((k,), (k, 1)) for k in range(1, 7)])

# Its poles are at i w with squares w * w that are no ratios.
GOLDEN = ((0, 3, 0, 2), (1, 0, 3, 0, 1))

# Positive real functions: ratios, poles and zeros at 0, far out and on the axis, also at places that are no ratios,
# functions whose real part touches 0 on the axis, and the greatest degree.
POSITIVES = (
    ZERO, ONE, ((3,), (7,)), ((1,), (LIMIT,)), S, ((0, 2), (3,)), ((1,), (0, 1)), ((2,), (0, 5)), ((1, 1), (1,)),
    ((1,), (1, 1)), ((0, 1), (1, 1)), ((1, 1), (0, 1)), ((2, 1), (1, 1)), ((1, 0, 1), (0, 1)), ((0, 1), (1, 0, 1)),
    ((0, 1), (2, 0, 1)), ((2, 0, 1), (0, 3)), ((0, 2, 0, 1), (1, 0, 1)), ((9, 0, 10, 0, 1), (0, 4, 0, 1)),
    ((1, 1, 1), (0, 1)), ((2, 1, 1), (2, 0, 1)), ((2, 0, 1), (2, 1, 1)), ((3, 0, 2), (3, 5, 2)), TOUCHING,
    ((1, 1, 1), (1, 1, 4)), ((0, 1), (1, 1, 1)), ((1, 0, 1), (1, 1, 1)), ((1, 2, 1), (1, 1, 1)),
    GOLDEN, functions.reciprocal(GOLDEN), functions.add(GOLDEN, ((2, 1), (1, 1))), functions.add(GOLDEN, TOUCHING),
    functions.subtract(((2, 1), (1, 1)), ONE), POSITIVE_12, LOSSLESS_12, functions.reciprocal(POSITIVE_12),
)

NEGATIVES = (
    ((-1,), (1,)), ((-1,), (LIMIT,)), ((0, -1), (1,)), ((-1,), (0, 1)), ((-1, 1), (1,)), ((1, -1), (1,)),
    ((0, 0, 1), (1,)), ((1,), (0, 0, 1)), ((0, 0, 0, 1), (1,)), ((1,), (0, 0, 0, 1)), ((1, 1, 1), (1,)),
    ((1,), (1, 1, 1)), ((1, 3, 3, 1), (1,)), ((1,), (-1, 1)), ((1, 1), (-1, 1)), ((-1, 1), (1, 1)), ((1, -1), (1, 1)),
    ((1, 0, 1), (1,)), ((1,), (1, 0, 1)), ((1, 1), (1, 0, 1)), ((1, 0, 1), (1, 1)), ((0, -1), (1, 0, 1)),
    ((0, 1), (-1, 0, 1)), ((0, -1), (2, 0, 1)), ((1, 1), (2, 0, 1)), ((0, 1), (1, 0, 2, 0, 1)),
    ((1, 0, 2, 0, 1), (0, 1)), ((4, 0, 4, 0, 1), (0, 0, 0, 1)), ((0, 0, 0, 1), (4, 0, 4, 0, 1)),
    ((1, 0, 5, 0, 4), (0, 2, 0, 1)), ((1, -2, 1), (1, 2, 1)), ((1, 1), (1, -1, 1)), ((1, -1, 1), (1, 1)),
    ((2, -1, 1), (2, 1, 1)), ((1, 1, 2), (4, 1, 1)), ((0, 0, 1), (1, 1)), ((1, 1), (0, 0, 1)), ((1, 1), (0, 0, 0, 1)),
    functions.subtract(ZERO, GOLDEN), ((0, 1), (1, 0, 6, 0, 11, 0, 6, 0, 1)), functions.subtract(GOLDEN, ((1,), (99,))),
    ((0, 1), (1, 0, 3, 0, 1)), ((1, 3, 0, 2), (1, 0, 3, 0, 1)), functions.add(((0, 4), (1, 0, 3, 0, 1)), TOUCHING),
    functions.subtract(TOUCHING, ((1,), (10 ** 20,))), functions.subtract(((2, 1), (1, 1)), ((1001,), (1000,))),
    functions.subtract(POSITIVE_12, ((6,), (1,))), functions.subtract(LOSSLESS_12, tank(3, 2)),
    functions.subtract(LOSSLESS_12, ((1,), (10 ** 9,))),
    functions.subtract(POSITIVE_12, ((0, 2), (1,))), functions.subtract(POSITIVE_12, ((2,), (0, 1))),
    ((1,) * 13, (1,)), ((1,), (1,) * 13), ((LIMIT,) + (0,) * 11 + (1,), (1,) + (0,) * 11 + (LIMIT,)),
)


def some_ladder(source, many, rungs):
    """A ladder of rungs with these places and kinds."""
    return tuple([source.choice(rungs) + (as_ratio(Fraction(source.randint(1, 9), source.randint(1, 4))),)
                  for _ in range(many)])


def ladder_at(ladder, place):
    """The impedance of a ladder at a positive fraction, worked out by itself."""
    found = None
    for rung in reversed(ladder):
        own = 1 / admittance_at((rung[1], 0, 1, rung[2]), place)
        if found is None:
            found = own
        else:
            found = own + found if rung[0] == "S" else own * found / (own + found)
    return found


def lossless_of(zeros, poles, size=1, at_zero=1):
    """size times s or 1 / s, times all s s + square of zeros, divided by those of poles."""
    factors = [[(Fraction(square).numerator, 0, Fraction(square).denominator) for square in squares]
               for squares in (zeros, poles)]
    ends = ((0, size), (1,)) if at_zero == 1 else ((size,), (0, 1))
    return functions.function(product_of(ends[0], *factors[0]), product_of(ends[1], *factors[1]))


# Functions that are not lossless, though some of them are but for a sign, a multiple pole or one coefficient.
NOT_LOSSLESS = NEGATIVES + (
    ONE, ((3,), (7,)), ((1, 1), (1,)), ((0, 1), (1, 1)), ((1, 1), (0, 1)), ((1, 1, 1), (0, 1)), ((2, 1, 1), (2, 0, 1)),
    TOUCHING, POSITIVE_12, ((-1, 0, 1), (0, 1)), ((1, 0, -1), (0, 1)), ((-1, 0, -1), (0, 1)), ((0, 1), (-1, 0, 1)),
    ((0, -2, 0, -1), (1, 0, 1)), ((0, 1, 0, 1), (2, 0, 1)),
    ((9, 0, -10, 0, 1), (0, 4, 0, 1)), ((9, 0, 10, 0, 1), (0, 10, 0, 1)), ((9, 0, 10, 0, 1), (0, -4, 0, 1)),
    ((9, 0, 10, 0, -1), (0, 4, 0, 1)), ((9, 0, 5, 0, 1), (0, 4, 0, 1)), ((9, 1, 10, 0, 1), (0, 4, 0, 1)),
    ((9, 0, 10, 0, 1), (1, 4, 0, 1)), ((9, 0, 10, 0, 1), (0, 4, 1, 1)), ((9, 0, 10, 0, 1), (0, 1)),
    ((0, 4), (9, 0, 10, 0, 1)), ((0, 2, 0, 1), (1, 0, 2, 0, 1)), ((4, 0, 1), (0, 1, 0, 1)),
    ((4, 0, 5, 0, 1), (0, 0, 0, 1)),
    functions.subtract(LOSSLESS_12, tank(4, 3)), functions.subtract(LOSSLESS_12, tank(7, 5)),
    functions.subtract(LOSSLESS_12, ((0, 2), (1,))), functions.subtract(LOSSLESS_12, ((4,), (0, 1))),
)
LOSSLESS = (
    S, ((0, 2), (3,)), ((1,), (0, 1)), ((5,), (0, 7)), ((0, LIMIT), (1,)), ((0, 1), (1, 0, 1)), ((1, 0, 1), (0, 1)),
    ((0, 2, 0, 1), (1, 0, 1)), ((1, 0, 1), (0, 2, 0, 1)), ((9, 0, 10, 0, 1), (0, 4, 0, 1)),
    ((0, 4, 0, 1), (9, 0, 10, 0, 1)), GOLDEN, functions.reciprocal(GOLDEN),
    lossless_of((1, 3, 5), (2, 4), 7, -1), lossless_of((2, 4), (1, 3, 5), 7), lossless_of((1, 3), (2, 4), 2, -1),
    lossless_of((2, 4), (1, 3), 2), lossless_of((Fraction(1, 9), 6), (4,), 1, -1), LOSSLESS_12,
    functions.reciprocal(LOSSLESS_12),
)


IDENTITY = (ONE, ZERO, ZERO, ONE)

# Values that are no tuples of four functions, with the index that BadFour, and BadChain too, tells.
BAD_FOURS = tuple([(value, None) for value in ODDITIES]) + (
    ((ONE,) * 3, None), ((ONE,) * 5, None), ((), None), ([ONE, ZERO, ZERO, ONE], None), ({ONE: 1}, None),
    ("abcd", None), (ONE, None), ((ONE,), None), ((None, ZERO, None, ONE), 0), ((ONE, ZERO, 7, None), 2),
    ((None,) * 4, 0), ((ONE, ONE, ONE, None), 3)) + tuple(
        [(IDENTITY[:at] + (value,) + IDENTITY[at + 1:], at) for at in range(4) for value in BAD_FUNCTIONS])

# The same for BadChain alone: a d - b c is 0.
BAD_CHAINS = BAD_FOURS + (
    ((ONE,) * 4, None), ((ZERO,) * 4, None), ((ONE, ZERO, ZERO, ZERO), None), ((ZERO, ONE, ZERO, S), None),
    ((S, ONE, S, ONE), None), ((S, power(2), ONE, S), None), ((((1, 1), (2, 1)), ((1,), (2, 1)), ((1, 1), (1,)), ONE),
                                                             None),
    ((ONE, ONE, ONE, (1, 1)), 3), ((((2,), (2,)), ZERO, ZERO, ZERO), 0))


def matrix_at(chain, place):
    """The rows of the values of a chain at a fraction, worked out by itself."""
    a, b, c, d = [quotient_at(one, place) for one in chain]
    return (a, b), (c, d)


def matrix_product(one, other):
    return tuple([tuple([sum(row[k] * other[k][at] for k in range(2)) for at in range(2)]) for row in one])


def lossless_of_degree(degree, first=1):
    """A lossless function of a degree, the sum of its poles at other places for other numbers first."""
    poles = [tank(1, first + at) for at in range(degree // 2)]
    return sum_of(poles + [S] * (degree % 2)) if degree else ZERO


SUM_OF_12 = sum_of([((1,), (k, 1)) for k in range(1, 13)])


def some_chains(seed, many):
    """Chains of three small rungs, whose impedances may be anything but 0, some of them times a function."""
    source = random.Random(seed)
    ones = [one for one in some_functions(seed, 4 * many, 1, 3) if one != ZERO]
    answer = []
    while len(answer) < many:
        chain = IDENTITY
        for _ in range(source.randint(1, 3)):
            chain = chains.cascade(chain, source.choice((chains.series_chain, chains.across_chain))(source.choice(ones)))
        if source.random() < 0.4:
            factor = source.choice(ones)
            rows = [functions.multiply(factor, one) for one in chain[:2]]
            chain = tuple(rows) + chain[2:]
        answer.append(chain)
    return answer


def some_joined_network(source):
    """A network in which what is sent into 1 shows at 2, and the other way round."""
    while True:
        nodes = source.randint(3, 5)
        network = some_network(source, nodes, source.randint(nodes - 1, 7))
        if solving.potentials(network, 1, 0)[2] != ZERO:
            return network


# Values that are no pieces, with the index that BadPieces tells.
BAD_PIECES = tuple([(value, None) for value in ODDITIES if not isinstance(value, tuple)]) + (
    ([(1, 1)], None), ({}, None), ({(1, 1): 1}, None), ("ab", None), (((1, 1),) * 13, None), ((None,) * 13, None),
    ((1, 1), 0), ((1,), 0), (((1, 1),) * 11 + (None,), 11), (((1, 1), (2, 1), 3, None), 2), ((None,) * 12, 0)) + tuple(
        [((value,), 0) for value in BAD_POSITIVES]) + tuple([(((1, 1), value, None), 1) for value in BAD_POSITIVES])


def some_ratio(source, most=9):
    return as_ratio(Fraction(source.randint(1, most), source.randint(1, 5)))


def some_pieces(source, many, most=9):
    return tuple([some_ratio(source, most) for _ in range(many)])


def gap_of(left, echo):
    """The polynomial left(s) left(-s) - echo(s) echo(-s)."""
    squares = [product_of(one, [-c if at % 2 else c for at, c in enumerate(one)]) for one in (left, echo)]
    many = max(len(square) for square in squares)
    found = [sum(sign * square[at] for sign, square in zip((1, -1), squares) if at < len(square)) for at in range(many)]
    while found and found[-1] == 0:
        found.pop()
    return tuple(found)


# Values that are no steps, with the index that BadSteps tells.
BAD_STEPS = tuple([(value, None) for value in ODDITIES if not isinstance(value, tuple) or value == ()]) + (
    ([(1, 2)], None), ({(1, 2): 1}, None), ("ab", None), (((1, 2),) * 13, None), ((None,) * 13, None),
    ((1, 2), 0), ((0,), 0), (((1, 2),) * 11 + (None,), 11), (((1, 2), (0, 1), 3, None), 2), ((None,) * 12, 0)) + tuple(
        [((value,), 0) for value in BAD_RATIOS]) + tuple([(((1, 2), value, None), 1) for value in BAD_RATIOS])


def some_steps(source, many):
    """Steps below 1 in size."""
    return tuple([as_ratio(Fraction(source.randint(-8, 8), 9)) for _ in range(many)])
