"""Arithmetic with polynomials of any degree, with integers of any size."""

from math import gcd


def trimmed(coefficients):
    """The polynomial with these coefficients, the last of which may be 0."""
    many = len(coefficients)
    while many > 0 and coefficients[many - 1] == 0:
        many -= 1
    return tuple(coefficients[:many])


def coefficient_at(polynomial, power):
    return polynomial[power] if power < len(polynomial) else 0


def poly_sum(one, other):
    many = max(len(one), len(other))
    return trimmed([coefficient_at(one, at) + coefficient_at(other, at) for at in range(many)])


def poly_times_number(polynomial, number):
    return trimmed([number * coefficient for coefficient in polynomial])


def poly_difference(one, other):
    return poly_sum(one, poly_times_number(other, -1))


def poly_product(one, other):
    if not one or not other:
        return ()
    answer = [0] * (len(one) + len(other) - 1)
    for at, left in enumerate(one):
        for by, right in enumerate(other):
            answer[at + by] += left * right
    return tuple(answer)


def backwards(polynomial):
    """The polynomial with the negative of the variable in its place."""
    return tuple([-coefficient if at % 2 == 1 else coefficient for at, coefficient in enumerate(polynomial)])


def times_variable(polynomial):
    return (0,) + polynomial if polynomial else ()


def of_square(polynomial):
    """The polynomial with the square of the variable in its place."""
    answer = []
    for coefficient in polynomial:
        answer += [coefficient, 0]
    return tuple(answer[:-1])


def derivative(polynomial):
    return tuple([at * polynomial[at] for at in range(1, len(polynomial))])


def content(polynomial):
    """The greatest integer that divides all coefficients; 0 for the polynomial 0."""
    shared = 0
    for coefficient in polynomial:
        shared = gcd(shared, coefficient)
    return shared


def over_number(polynomial, number):
    """A polynomial divided by a number that divides all its coefficients."""
    return tuple([coefficient // number for coefficient in polynomial])


def primitive(polynomial):
    """A polynomial divided by its content; the signs stay."""
    return over_number(polynomial, content(polynomial))


def value_over(polynomial, number, under, power):
    """The value at number / under, times under to a power that is not below the degree."""
    total = 0
    factor = 1
    for at in reversed(range(power + 1)):
        total = total * number + coefficient_at(polynomial, at) * factor
        factor = factor * under
    return total


def integer_value(polynomial, number):
    total = 0
    for coefficient in reversed(polynomial):
        total = total * number + coefficient
    return total


def exact_quotient(one, other):
    """The polynomial with integers that is one divided by other, which is not 0; None if there is none."""
    rest = list(one)
    answer = [0] * max(0, len(one) - len(other) + 1)
    for at in reversed(range(len(answer))):
        answer[at] = rest[at + len(other) - 1] // other[-1]
        for by, coefficient in enumerate(other):
            rest[at + by] -= answer[at] * coefficient
    return trimmed(answer) if not any(rest) else None


def common_divisor(one, other):
    """The greatest polynomial that divides two polynomials, which are not both 0; its content is 1."""
    one, other = primitive(one), primitive(other)
    if not one or not other:
        return one or other
    # The value of the divisor at an integer divides the values of both, and at a great place its coefficients are
    # the digits of that value. What is found so and divides both is the greatest: a factor that it lacked would
    # divide all digits, but from twice the height on its value is, by Cauchy's bound of the roots, greater than
    # any of them. Where the values have a further divisor in common, which divides the resultant, a place that is
    # great enough leaves it in all digits, and it is divided out with the content.
    place = 2 * min(_height(one), _height(other)) + 2
    while True:
        shared = gcd(integer_value(one, place), integer_value(other, place))
        found = primitive(_digits(shared, place))
        if exact_quotient(one, found) is not None and exact_quotient(other, found) is not None:
            return found
        place = place * place


def _height(polynomial):
    return max([abs(coefficient) for coefficient in polynomial])


def _digits(number, base):
    """The polynomial with coefficients of at most half the base that has this value at the base."""
    answer = []
    while number != 0:
        digit = number % base
        if 2 * digit > base:
            digit -= base
        answer.append(digit)
        number = (number - digit) // base
    return tuple(answer)
