"""Series of quotients."""

from coilnets.ratios import ratio_difference, ratio_product, ratio_quotient


def quotient_series(top, bottom, many):
    """The first coefficients of the series of top / bottom, two lists of ratios; that of bottom begins with no 0."""
    answer = []
    for at in range(many):
        rest = top[at] if at < len(top) else (0, 1)
        for by in range(1, min(at + 1, len(bottom))):
            rest = ratio_difference(rest, ratio_product(bottom[by], answer[at - by]))
        answer.append(ratio_quotient(rest, bottom[0]))
    return tuple(answer)


def polynomial_series(top, bottom, many):
    """The same for two lists of integers."""
    return quotient_series([(one, 1) for one in top], [(one, 1) for one in bottom], many)
