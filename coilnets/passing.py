"""Positive real functions with given values at given places."""

from coilnets.checks import is_positive_ratio
from coilnets.errors import BadPairs
from coilnets.polys import poly_sum, poly_times_number, times_variable
from coilnets.quotients import constant_of, limited, quotient
from coilnets.ratios import ratio_of, ratio_quotient, ratio_sum

MOST_PAIRS = 4


def pick_table(pairs):
    """The rows of the sums of two values divided by the sums of their places."""
    _check_pairs(pairs)
    return tuple([tuple([_pick_entry(one, other) for other in pairs]) for one in pairs])


def through(pairs):
    """A positive real function that has these values at these places, None if there is none."""
    _check_pairs(pairs)
    found = _function_through(pairs)
    return None if found is None else limited(found)


def _check_pairs(pairs):
    if not isinstance(pairs, tuple) or not 1 <= len(pairs) <= MOST_PAIRS:
        raise BadPairs(None)
    places = []
    for index, pair in enumerate(pairs):
        if not _is_pair(pair) or pair[0] in places:
            raise BadPairs(index)
        places.append(pair[0])


def _is_pair(value):
    if not isinstance(value, tuple) or len(value) != 2:
        return False
    return is_positive_ratio(value[0]) and is_positive_ratio(value[1])


def _pick_entry(one, other):
    return ratio_quotient(ratio_sum(one[1], other[1]), ratio_sum(one[0], other[0]))


def _function_through(pairs):
    # By the exchange of P. Richards at the first place, the function that is sought belongs to any positive real
    # function with the exchanged values at the further places, or to the one that is 0 or beyond all bounds everywhere.
    place, value = pairs[0]
    if len(pairs) == 1:
        return constant_of(value)
    exchanged = [_exchanged(place, value, pair) for pair in pairs[1:]]
    if not any([number for number, _ in exchanged]):
        return _before_exchange(((), (1,)), place, value)
    if not any([under for _, under in exchanged]):
        return _before_exchange(((1,), ()), place, value)
    if any([number * under <= 0 for number, under in exchanged]):
        return None
    values = [ratio_of(number, under) for number, under in exchanged]
    inner = _function_through([(pair[0], ratio) for pair, ratio in zip(pairs[1:], values)])
    return None if inner is None else _before_exchange(inner, place, value)


def _exchanged(place, value, pair):
    """The value of the exchanged function where the function has the value of a pair, as two integers."""
    # The value is (k w - l v) / (k v - l w) for the place k, the value v and the pair (l, w).
    other_place, worth = pair
    one, two = place[0] * other_place[1], other_place[0] * place[1]
    three, four = value[0] * worth[1], worth[0] * value[1]
    return one * four - two * three, one * three - two * four


def _before_exchange(inner, place, value):
    """The function v (s + k G) / (k + s G) for the exchanged function G, whose bottom may be 0."""
    top, bottom = inner
    above = poly_sum(poly_times_number(times_variable(bottom), place[1]), poly_times_number(top, place[0]))
    below = poly_sum(poly_times_number(bottom, place[0]), poly_times_number(times_variable(top), place[1]))
    return quotient(poly_times_number(above, value[0]), poly_times_number(below, value[1]))
