"""Promises 23, 24 and 28: ladders, their impedances and networks, ladders for lossless functions and for bands."""

import random
import unittest
from fractions import Fraction

from coilnets.errors import BadFunction, BadKind, BadLadder, TooLarge, TooManyNodes
from coilnets.functions import compose, degree, reciprocal
from coilnets.ladders import band_ladder, far_ladder, ladder_impedance, ladder_network, near_ladder
from coilnets.lossless import is_lossless
from coilnets.networks import part_impedance
from coilnets.solving import impedance
from helpers import BAD_FUNCTIONS, BAD_LADDERS, LIMIT, LOSSLESS, LOSSLESS_12, NOT_LOSSLESS, RUNG, S, ZERO, CoilTest
from helpers import ladder_at, quotient_at, some_impedances, some_ladder

ALL_RUNGS = [(place, kind) for place in "SP" for kind in "RLC"]
FAR_RUNGS = [("S", "L"), ("P", "C")]
NEAR_RUNGS = [("S", "C"), ("P", "L")]
ONES = (1, 1)


def by_turns(first, second, many):
    """A ladder of rungs of value 1 by turns."""
    return tuple([(first if at % 2 == 0 else second) + (ONES,) for at in range(many)])


class Example(CoilTest):

    def test_interface(self):
        one = ((9, 0, 10, 0, 1), (0, 4, 0, 1))
        self.assertEqual(far_ladder(one), (("S", "L", (1, 1)), ("P", "C", (1, 6)), ("S", "L", (12, 5)),
                                           ("P", "C", (5, 18))))
        self.assertEqual(near_ladder(((1, 0, 1), (0, 1))), (("S", "C", (1, 1)), ("P", "L", (1, 1))))
        self.assertEqual(ladder_impedance((("S", "L", (1, 1)), ("P", "C", (1, 2)))), ((2, 0, 1), (0, 1)))
        self.assertEqual(ladder_network((("S", "L", (1, 1)), ("P", "R", (1, 2)))),
                         (3, (("L", 1, 2, (1, 1)), ("R", 2, 0, (1, 2)))))
        self.assertIsNone(far_ladder(((0, -1), (1,))))
        self.assertEqual(band_ladder((("P", "C", (2, 1)),)), (("P", "C", (2, 1)), ("P", "L", (1, 2))))


class Impedance(CoilTest):

    def test_values(self):
        source = random.Random(231)
        for _ in range(150):
            ladder = some_ladder(source, source.randint(1, 12), ALL_RUNGS)
            found = ladder_impedance(ladder)
            for place in (Fraction(1, 3), Fraction(2)):
                self.assertEqual(quotient_at(found, place), ladder_at(ladder, place))

    def test_last_rung(self):
        """The far end is closed behind a last rung in series and open behind one across: its place does not count."""
        for place in "SP":
            self.assertEqual(ladder_impedance(((place, "L", (2, 3)),)), ((0, 2), (3,)))
            self.assertEqual(ladder_impedance(((place, "C", (2, 3)),)), ((3,), (0, 2)))
            self.assertEqual(ladder_impedance(((place, "R", (LIMIT, 1)),)), ((LIMIT,), (1,)))
            self.assertEqual(ladder_impedance((("S", "R", ONES), (place, "L", ONES))), ((1, 1), (1,)))
            self.assertEqual(ladder_impedance((("P", "R", ONES), (place, "L", ONES))), ((0, 1), (1, 1)))

    def test_greatest_degree(self):
        twelve, thirteen = by_turns(("S", "L"), ("P", "C"), 12), by_turns(("S", "L"), ("P", "C"), 13)
        self.assertEqual(degree(ladder_impedance(twelve)), 12)
        self.assertEqual(self.raises(TooLarge, ladder_impedance, thirteen).most, 12)
        # The degree is too great only between: the coils in series add up to one.
        self.assertEqual(ladder_impedance((("S", "L", ONES),) * 13), ((0, 13), (1,)))
        self.assertEqual(degree(ladder_impedance(thirteen[:-1] + (("S", "R", ONES),))), 12)

    def test_numbers_of_rungs(self):
        self.assertEqual(ladder_impedance((("P", "R", ONES),) * 13), ((1,), (13,)))
        self.assertEqual(ladder_impedance((("P", "R", ONES),)), ((1,), (1,)))

    def test_errors(self):
        for value, index in BAD_LADDERS:
            for call in (ladder_impedance, ladder_network, band_ladder):
                self.assertEqual(self.raises(BadLadder, call, value).index, index, value)


class Network(CoilTest):

    def test_impedance(self):
        source = random.Random(232)
        for _ in range(60):
            ladder = some_ladder(source, source.randint(1, 8), ALL_RUNGS)
            network = ladder_network(ladder)
            self.assertEqual(impedance(network, 1, 0), ladder_impedance(ladder), ladder)
            self.assertEqual([part[::3] for part in network[1]], [rung[1:] for rung in ladder])
            for index, rung in enumerate(ladder):
                self.assertEqual(part_impedance(network, index), ladder_impedance((rung,)))

    def test_nodes(self):
        series, across = ("S", "R", ONES), ("P", "C", (2, 1))
        for ladder, many, ends in (
                ((series,), 2, [(1, 0)]), ((across,), 2, [(1, 0)]), ((across,) * 3, 2, [(1, 0)] * 3),
                ((series, series), 3, [(1, 2), (2, 0)]), ((series, across), 3, [(1, 2), (2, 0)]),
                ((across, series), 2, [(1, 0), (1, 0)]),
                ((across, series, across, across, series, series), 4,
                 [(1, 0), (1, 2), (2, 0), (2, 0), (2, 3), (3, 0)])):
            network = ladder_network(ladder)
            self.assertEqual(network[0], many)
            self.assertEqual([part[1:3] for part in network[1]], ends)

    def test_most_nodes(self):
        series, across = ("S", "R", ONES), ("P", "R", ONES)
        for ladder in ((series,) * 7, (series,) * 6 + (across,), (across,) * 5 + (series,) * 7,
                       (series,) * 6 + (across,) * 7, (series, across) * 6 + (series,)):
            self.assertEqual(ladder_network(ladder)[0], 8)
        for ladder in ((series,) * 8, (series,) * 7 + (across,), (series,) * 13, (across,) * 5 + (series,) * 8,
                       (series, across) * 5 + (series,) * 3, (series,) * 7 + (across,) * 6):
            self.raises(TooManyNodes, ladder_network, ladder)


class Lossless(CoilTest):

    def test_there_and_back(self):
        for one in LOSSLESS + tuple(some_impedances(241, 60, kinds="LC")):
            for call, rungs in ((far_ladder, FAR_RUNGS), (near_ladder, NEAR_RUNGS)):
                ladder = call(one)
                self.assertEqual(len(ladder), degree(one))
                self.assertEqual(ladder_impedance(ladder), one)
                self.assertTrue(all(rung[:2] in rungs for rung in ladder))
                self.assertTrue(all(rung[0] != other[0] for rung, other in zip(ladder, ladder[1:])))

    def test_ladders_come_back(self):
        source = random.Random(242)
        for _ in range(60):
            for call, rungs in ((far_ladder, FAR_RUNGS), (near_ladder, NEAR_RUNGS)):
                turns = rungs if source.random() < 0.5 else rungs[::-1]
                ladder = tuple([turns[at % 2] + some_ladder(source, 1, ALL_RUNGS)[0][2:]
                                for at in range(source.randint(1, 12))])
                self.assertEqual(call(ladder_impedance(ladder)), ladder)

    def test_one_rung(self):
        self.assertEqual(far_ladder(((0, 2), (3,))), (("S", "L", (2, 3)),))
        self.assertEqual(far_ladder(((2,), (0, 3))), (("P", "C", (3, 2)),))
        self.assertEqual(near_ladder(((0, 2), (3,))), (("P", "L", (2, 3)),))
        self.assertEqual(near_ladder(((2,), (0, 3))), (("S", "C", (3, 2)),))

    def test_greatest_degree(self):
        for one in (LOSSLESS_12, reciprocal(LOSSLESS_12), compose(LOSSLESS_12, ((1,), (0, 5)))):
            for call in (far_ladder, near_ladder):
                self.assertEqual(len(call(one)), 12)
                self.assertEqual(ladder_impedance(call(one)), one)

    def test_none(self):
        for one in NOT_LOSSLESS + (ZERO,):
            self.assertIsNone(far_ladder(one), one)
            self.assertIsNone(near_ladder(one), one)

    def test_errors(self):
        for value in BAD_FUNCTIONS:
            self.raises(BadFunction, far_ladder, value)
            self.raises(BadFunction, near_ladder, value)


class Band(CoilTest):

    def test_impedance(self):
        """It is the impedance with s + 1 / s in the place of s."""
        source = random.Random(243)
        for _ in range(40):
            ladder = some_ladder(source, source.randint(1, 6), FAR_RUNGS)
            found = band_ladder(ladder)
            self.assertEqual(len(found), 2 * len(ladder))
            self.assertEqual(found[::2], ladder)
            self.assertEqual(ladder_impedance(found), compose(ladder_impedance(ladder), ((1, 0, 1), (0, 1))))
            self.assertTrue(is_lossless(ladder_impedance(found)))

    def test_known(self):
        self.assertEqual(band_ladder((("S", "L", (3, 1)), ("S", "L", (1, 4)), ("P", "C", (2, 5)))),
                         (("S", "L", (3, 1)), ("S", "C", (1, 3)), ("S", "L", (1, 4)), ("S", "C", (4, 1)),
                          ("P", "C", (2, 5)), ("P", "L", (5, 2))))

    def test_bad_kinds(self):
        six = (("S", "L", ONES), ("P", "C", ONES)) * 3
        self.assertEqual(len(band_ladder(six)), 12)
        self.raises(BadKind, band_ladder, six + (RUNG,))
        self.raises(BadKind, band_ladder, (RUNG,) * 13)
        for place, kind in (("P", "L"), ("S", "C"), ("S", "R"), ("P", "R")):
            for at in (0, 1, 5):
                self.raises(BadKind, band_ladder, six[:at] + ((place, kind, ONES),) + six[at + 1:])

    def test_ladder_goes_first(self):
        bad = ("S", "L", (0, 1))
        self.assertEqual(self.raises(BadLadder, band_ladder, (("S", "R", ONES), bad)).index, 1)
        self.assertEqual(self.raises(BadLadder, band_ladder, (RUNG,) * 9 + (bad,)).index, 9)
        self.assertEqual(self.raises(BadLadder, ladder_network, (("S", "R", ONES),) * 12 + (bad,)).index, 12)
        self.assertEqual(self.raises(BadLadder, ladder_impedance, by_turns(*FAR_RUNGS, 12) + (bad,)).index, 12)
        self.assertEqual(ladder_impedance(band_ladder((RUNG,))), compose(S, ((1, 0, 1), (0, 1))))


if __name__ == "__main__":
    unittest.main()
