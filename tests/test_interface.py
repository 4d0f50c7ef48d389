"""The interface: each name stands in its file, with its arguments."""

import importlib
import inspect
import unittest

FUNCTIONS = {
    "functions": {
        "function": ["top", "bottom"], "constant": ["ratio"], "degree": ["function"],
        "value_at": ["function", "ratio"], "add": ["one", "other"], "subtract": ["one", "other"],
        "multiply": ["one", "other"], "divide": ["one", "other"], "reciprocal": ["one"], "compose": ["one", "other"],
    },
    "roots": {
        "count_roots": ["polynomial", "low", "high"], "is_left": ["polynomial"], "never_negative": ["polynomial"],
    },
    "texts": {"write": ["function"], "read": ["text"]},
    "networks": {
        "part_impedance": ["network", "index"], "scaled": ["network", "size", "speed"], "turned": ["network"],
        "triangle_of": ["one", "two", "three"], "star_of": ["one", "two", "three"],
    },
    "solving": {
        "potentials": ["network", "a", "b"], "impedance": ["network", "a", "b"],
        "voltage_ratio": ["network", "a", "b", "c", "d"], "solve_at": ["network", "a", "b", "ratio"],
    },
    "trees": {"tree_sum": ["network"], "split_sum": ["network", "a", "b"]},
    "positive": {
        "is_positive": ["function"], "passes_poles": ["function"], "axis_part": ["function"],
        "can_lose": ["function", "ratio"],
    },
    "against": {
        "point_against": ["function"], "shows_against": ["function", "value"], "value_at_point": ["function", "point"],
    },
    "removal": {
        "pole_far": ["function"], "pole_near": ["function"], "axis_split": ["function"],
        "richards": ["function", "ratio"], "echo_of": ["function"], "from_echo": ["function"],
    },
    "passing": {"pick_table": ["pairs"], "through": ["pairs"]},
    "lossless": {
        "is_lossless": ["function"], "takes_turns": ["function"], "reactance_at": ["function", "ratio"],
        "slope_at": ["function", "ratio"], "turns_between": ["function", "low", "high"],
    },
    "ladders": {
        "ladder_impedance": ["ladder"], "ladder_network": ["ladder"], "far_ladder": ["function"],
        "near_ladder": ["function"], "band_ladder": ["ladder"],
    },
    "tanks": {"tank_parts": ["function"]},
    "simple": {
        "is_rc": ["function"], "is_rl": ["function"], "as_coils": ["function"], "as_capacitors": ["function"],
        "rc_far": ["function"], "rc_near": ["function"], "rl_far": ["function"], "rl_near": ["function"],
        "order_of": ["function"], "mirrored": ["function", "kind"],
    },
    "chains": {
        "series_chain": ["function"], "across_chain": ["function"], "cascade": ["one", "other"],
        "ladder_chain": ["ladder"], "network_chain": ["network", "i", "o"], "is_reciprocal": ["chain"],
        "is_symmetric": ["chain"], "turned_round": ["chain"], "loaded": ["chain", "function"], "open_end": ["chain"],
        "short_end": ["chain"],
    },
    "fours": {
        "impedances_of": ["chain"], "admittances_of": ["chain"], "hybrids_of": ["chain"], "from_impedances": ["four"],
        "from_admittances": ["four"], "side_by_side": ["one", "other"], "in_series": ["one", "other"],
        "lattice": ["one", "two"], "arms_of": ["chain"], "tee_of": ["chain"], "pie_of": ["chain"],
    },
    "filters": {
        "gain_of": ["ladder"], "echo_polys": ["ladder"], "turned_filter": ["ladder"],
        "filter_ladder": ["left", "echo"],
    },
    "lines": {
        "line_impedance": ["pieces", "end"], "take_piece": ["function"], "line_of": ["function"],
        "exchanged": ["piece", "rung"],
    },
    "layers": {
        "layer_echo": ["steps"], "echo_series": ["steps", "many"], "steps_of": ["series"],
        "steps_of_impedances": ["pieces"], "pieces_of_steps": ["first", "steps"],
    },
    "energies": {"energy_of": ["function"], "first_values": ["function", "many"]},
    "terminals": {
        "table_of": ["network", "terminals"], "without_node": ["network", "node"],
        "reduced_network": ["network", "terminals"], "resistors_of": ["table"], "ratios_of": ["table"],
    },
}

ERRORS = ("CoilError", "BadPolynomial", "BadFunction", "BadRatio", "NoFunction", "TooLarge", "NotText", "InvalidText",
          "BadNetwork", "BadNode", "BadNumber", "BadKind", "NotJoined", "BadPoint", "NotPositive", "BadPairs",
          "BadLadder", "NotLossless", "TooManyNodes", "NotSimple", "BadChain", "BadFour", "NotReciprocal", "NotSymmetric",
          "NotFilter", "BadPieces", "BadRung", "BadSteps", "BadStep", "NotFading", "NotProper", "BadName", "BadPart",
          "Full", "NoPart", "NothingToUndo", "BadTerminals", "BadTable", "TooManyParts")

BENCH = {"put": ["name", "kind", "a", "b", "value"], "take": ["name"], "undo": [], "seen": ["a", "b"],
         "seen_without": ["name", "a", "b"]}


class Interface(unittest.TestCase):

    def test_functions(self):
        for file, functions in FUNCTIONS.items():
            module = importlib.import_module("coilnets." + file)
            for name, arguments in functions.items():
                found = getattr(module, name)
                self.assertEqual(found.__module__, module.__name__)
                self.assertEqual(list(inspect.signature(found).parameters), arguments)

    def test_errors(self):
        module = importlib.import_module("coilnets.errors")
        for name in ERRORS:
            self.assertEqual(getattr(module, name).__module__, module.__name__)

    def test_bench(self):
        module = importlib.import_module("coilnets.benches")
        bench = module.Bench
        self.assertEqual(bench.__module__, module.__name__)
        self.assertEqual(list(inspect.signature(bench).parameters), ["many"])
        for name, arguments in BENCH.items():
            self.assertEqual(list(inspect.signature(vars(bench)[name]).parameters), ["self"] + arguments)
        for name in ("names", "network"):
            self.assertIsInstance(vars(bench)[name], property)
        for name in ("__init__", "__len__", "__contains__", "__eq__"):
            self.assertIn(name, vars(bench))


if __name__ == "__main__":
    unittest.main()
