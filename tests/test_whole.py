"""Promise 1 over the whole interface: any values, errors of the leftmost argument, answers that are equal."""

import importlib
import itertools
import unittest

from coilnets.benches import Bench
from coilnets.errors import BadName, BadNode, CoilError
from helpers import IDENTITY, LIMIT, ODDITIES, ONE, R1, S, CoilTest
from test_interface import FUNCTIONS

ONES, HALF = (1, 1), (1, 2)
NETWORK = (3, (R1, ("L", 1, 2, HALF), ("C", 2, 0, (3, 1))))
LADDER = (("S", "L", ONES), ("P", "R", (2, 1)))
CHAIN = (ONE, S, ((1,), (0, 1)), ((2,), (1,)))
MORE = ((2, 1), (1, 1))
PLAIN = {
    "top": (1, 2), "bottom": (1, 1), "ratio": ONES, "function": MORE, "one": MORE, "other": S, "two": S, "three": ONE,
    "polynomial": (2, 3, 1), "low": HALF, "high": (3, 1), "text": "(s)/(s+1)", "network": NETWORK, "index": 1,
    "size": ONES, "speed": HALF, "a": 0, "b": 1, "c": 2, "d": 0, "i": 1, "o": 2, "value": (ONES, ONES),
    "point": (ONES, ONES), "pairs": ((ONES, ONES),), "ladder": LADDER, "kind": "RC", "chain": CHAIN,
    "four": (ONE, S, ONE, S), "left": (2, 1), "echo": (0, 1), "pieces": (ONES, (2, 1)), "end": None, "piece": (2, 1),
    "rung": ("P", "C", HALF), "steps": (HALF, (1, 3)), "many": 3, "series": (HALF, (1, 4)), "first": (3, 1),
    "terminals": (0, 2), "node": 2, "table": ((ONES, (-1, 1)), ((-1, 1), ONES)),
}
# Where an argument of a name is another kind of value than elsewhere.
OTHERS = {
    "cascade": {"one": CHAIN, "other": CHAIN}, "side_by_side": {"one": CHAIN, "other": CHAIN},
    "in_series": {"one": CHAIN, "other": CHAIN}, "tee_of": {"chain": (ONE, S, ONE, ((1, 1), (1,)))},
    "pie_of": {"chain": (ONE, S, ONE, ((1, 1), (1,)))}, "arms_of": {"chain": (S, ((-1, 0, 1), (1,)), ONE, S)},
    "band_ladder": {"ladder": (("S", "L", ONES),)}, "ratios_of": {"table": ((ONE, S), (S, ONE))},
    "energy_of": {"function": ((1,), (1, 1))}, "order_of": {"function": MORE},
    **{name: {"function": S} for name in ("reactance_at", "slope_at", "turns_between", "tank_parts")},
}
# A value that no argument takes but those that are any values.
BAD = ("?",)
ANY_VALUE = {("shows_against", "value")}


def calls():
    """Each function of the interface with its name, the names of its arguments and values for them."""
    for file, functions in FUNCTIONS.items():
        module = importlib.import_module("coilnets." + file)
        for name, arguments in functions.items():
            values = [{**PLAIN, **OTHERS.get(name, {})}[argument] for argument in arguments]
            yield getattr(module, name), name, arguments, values


def error_of(call, values):
    """The class of the error of a call and its fields, None if there is none."""
    try:
        call(*values)
    except CoilError as error:
        return type(error), vars(error)
    return None


class Whole(CoilTest):

    def test_answers(self):
        """Equal arguments have equal answers, and there is one for the values that are used below."""
        for call, name, _, values in calls():
            self.assertEqual(call(*values), call(*values), name)

    def test_any_value(self):
        """Whatever is passed, the errors are those of the package."""
        for call, name, arguments, values in calls():
            for at in range(len(arguments)):
                for value in ODDITIES + (BAD, LIMIT * LIMIT, -LIMIT * LIMIT, (LIMIT * LIMIT, 1), IDENTITY, NETWORK, LADDER):
                    error_of(call, values[:at] + [value] + values[at + 1:])

    def test_each_argument_is_looked_at(self):
        for call, name, arguments, values in calls():
            for at, argument in enumerate(arguments):
                if (name, argument) not in ANY_VALUE:
                    self.assertIsNotNone(error_of(call, values[:at] + [BAD] + values[at + 1:]), (name, argument))

    def test_leftmost_argument(self):
        for call, name, arguments, values in calls():
            for first, second in itertools.combinations(range(len(arguments)), 2):
                if (name, arguments[first]) not in ANY_VALUE:
                    wrong = values[:first] + [BAD] + values[first + 1:]
                    both = wrong[:second] + [BAD] + wrong[second + 1:]
                    self.assertEqual(error_of(call, both), error_of(call, wrong), (name, first, second))

    def test_bench(self):
        bench = Bench(3)
        bench.put("a", "R", 0, 1, ONES)
        for values in itertools.product((BAD, "b"), ("R", None), (0, BAD), (1, BAD), (ONES, BAD)):
            if values[0] == BAD:
                self.raises(BadName, bench.put, *values)
        for values in itertools.product((BAD, "a"), (0, BAD), (1, BAD)):
            if values[0] == BAD:
                self.raises(BadName, bench.seen_without, *values)
            elif BAD in values:
                self.raises(BadNode, bench.seen_without, *values)


if __name__ == "__main__":
    unittest.main()
