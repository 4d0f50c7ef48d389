"""Promise 53: a bench."""

import random
import unittest

from coilnets.benches import Bench
from coilnets.errors import BadName, BadNode, BadNumber, BadPart, Full, NoFunction, NoPart, NotJoined, NothingToUndo
from coilnets.errors import TooLarge
from coilnets.solving import impedance
from helpers import BAD_FUNCTIONS, BAD_NODES, BAD_POSITIVES, LIMIT, ODDITIES, ONE, S, ZERO, CoilTest, power
from helpers import some_network

ONES = (1, 1)
MINUS = ((-1,), (1,))
BAD_NAMES = tuple([value for value in ODDITIES if value != "s"]) + (
    "", "abcdefghi", "a" * 9, "a" * 100, "A", "aB", "Z", "a1", "1", "a b", " a", "a ", "a_", "_", "-", "a\n", "\n", "`",
    "{", "a.b", "\u00e4", "a\u00e9", "\u0430", "ab\u2029", "\u212a", b"a", ("a",), ["a"], {"a": 1}, ("a", "b"), 97)
BAD_PARTS = tuple([(kind, 0, 1, ONES) for kind in ("r", "", "RL", "G", None, 1, ["R"], ("R",), True, {})]) + tuple(
    [("R", a, 1, ONES) for a in BAD_NODES + (1, 3)]) + tuple([("R", 0, b, ONES) for b in BAD_NODES + (0, 3)]) + tuple(
        [(kind, 0, 1, worth) for kind in "RLC" for worth in BAD_POSITIVES + (ONE, ZERO)]) + tuple(
            [("Z", 0, 1, worth) for worth in BAD_FUNCTIONS + (ZERO, ONES)])
NAMES = tuple("abcdefghijklmn")


def bench_of(network, names=NAMES):
    bench = Bench(network[0])
    for name, part in zip(names, network[1]):
        bench.put(name, *part)
    return bench


class Example(CoilTest):

    def test_interface(self):
        bench = Bench(2)
        self.assertIsNone(bench.put("a", "R", 0, 1, (2, 1)))
        self.assertIsNone(bench.put("b", "R", 0, 1, (2, 1)))
        self.assertEqual(bench.seen(0, 1), ((1,), (1,)))
        self.assertEqual(bench.seen_without("a", 0, 1), ((2,), (1,)))
        self.assertEqual(bench.names, ("a", "b"))
        self.assertEqual(bench.network, (2, (("R", 0, 1, (2, 1)), ("R", 0, 1, (2, 1)))))
        self.assertEqual(len(bench), 2)
        self.assertIs("c" in bench, False)


class Making(CoilTest):

    def test_numbers_of_nodes(self):
        for many in range(1, 9):
            bench = Bench(many)
            self.assertEqual((bench.network, bench.names, len(bench)), ((many, ()), (), 0))
        for value in tuple([value for value in ODDITIES if value != 1 or value is True]) + (-1, 9, 100, LIMIT, (1,)):
            self.raises(BadNumber, Bench, value)


class Put(CoilTest):

    def test_order(self):
        source = random.Random(531)
        for _ in range(20):
            network = some_network(source, source.randint(2, 8), 14)
            names = ["a", "b", "zz", "abcdefgh", "zzzzzzzz", "q", "ab", "ba", "x", "y", "z", "aa", "bb", "c"]
            source.shuffle(names)
            bench = bench_of(network, names)
            self.assertEqual(bench.network, network)
            self.assertEqual(bench.names, tuple(names))
            self.assertEqual(len(bench), 14)

    def test_kinds(self):
        parts = (("R", 0, 1, (2, 3)), ("L", 1, 2, (LIMIT, 1)), ("C", 2, 0, (1, LIMIT)), ("Z", 2, 1, S),
                 ("Z", 0, 2, MINUS))
        self.assertEqual(bench_of((3, parts)).network, (3, parts))

    def test_bad_names(self):
        bench = Bench(3)
        bench.put("a", "R", 0, 1, ONES)
        for value in BAD_NAMES + ("a",):
            self.raises(BadName, bench.put, value, "R", 0, 1, ONES)
            self.raises(BadName, bench.put, value, "X", 0, 0, None)
        for value in ("abcdefgh", "z", "aa", "s"):
            bench.put(value, "R", 0, 1, ONES)
        self.assertEqual(bench.names, ("a", "abcdefgh", "z", "aa", "s"))

    def test_bad_parts(self):
        bench = Bench(3)
        for part in BAD_PARTS:
            self.raises(BadPart, bench.put, "a", *part)
        self.raises(BadPart, Bench(1).put, "a", "R", 0, 0, ONES)
        self.raises(BadPart, Bench(1).put, "a", "R", 0, 1, ONES)
        bench.put("a", "R", 0, 2, ONES)
        self.assertEqual(len(bench), 1)

    def test_full(self):
        bench = Bench(2)
        for name in NAMES:
            bench.put(name, "R", 0, 1, (14, 1))
        self.raises(Full, bench.put, "o", "R", 0, 1, ONES)
        self.raises(BadName, bench.put, "a", "R", 0, 1, ONES)
        self.raises(BadName, bench.put, "A", "X", 0, 1, ONES)
        self.raises(BadPart, bench.put, "o", "R", 0, 0, ONES)
        self.assertEqual((len(bench), bench.seen(0, 1)), (14, ONE))
        bench.take("c")
        bench.put("o", "R", 1, 0, ONES)
        self.assertEqual(bench.names, tuple("abdefghijklmno"))

    def test_errors_change_nothing(self):
        bench = Bench(2)
        bench.put("a", "R", 0, 1, ONES)
        for error, call, arguments in (
                (BadName, bench.put, ("a", "L", 0, 1, ONES)), (BadPart, bench.put, ("b", "L", 0, 2, ONES)),
                (BadName, bench.take, ("A",)), (NoPart, bench.take, ("b",)),
                (BadName, bench.seen_without, (None, 0, 1)),
                (NoPart, bench.seen_without, ("b", 0, 1)), (BadNode, bench.seen, (0, 0)),
                (NotJoined, bench.seen_without, ("a", 0, 1))):
            self.raises(error, call, *arguments)
            self.assertEqual((bench.names, bench.network), (("a",), (2, (("R", 0, 1, ONES),))))
        bench.undo()
        self.assertEqual(bench.names, ())
        self.raises(NothingToUndo, bench.undo)


class Take(CoilTest):

    def test_each(self):
        network = some_network(random.Random(532), 4, 6)
        for at in range(6):
            bench = bench_of(network)
            self.assertIsNone(bench.take(NAMES[at]))
            self.assertEqual(bench.network, (4, network[1][:at] + network[1][at + 1:]))
            self.assertEqual(bench.names, NAMES[:at] + NAMES[at + 1:6])
            self.raises(NoPart, bench.take, NAMES[at])
            # A name that is free again stands at the end.
            bench.put(NAMES[at], *network[1][at])
            self.assertEqual(bench.names, NAMES[:at] + NAMES[at + 1:6] + (NAMES[at],))

    def test_same_parts(self):
        bench = bench_of((2, (("R", 0, 1, ONES),) * 3))
        bench.take("b")
        self.assertEqual((bench.names, len(bench)), (("a", "c"), 2))

    def test_errors(self):
        bench = bench_of((2, (("R", 0, 1, ONES),)))
        for value in BAD_NAMES:
            self.raises(BadName, bench.take, value)
        for value in ("b", "aa", "abcdefgh"):
            self.raises(NoPart, bench.take, value)
        self.raises(NoPart, Bench(1).take, "a")


class Seen(CoilTest):

    def test_impedance(self):
        source = random.Random(533)
        for _ in range(20):
            nodes = source.randint(2, 5)
            network = some_network(source, nodes, source.randint(nodes - 1, 6))
            bench = bench_of(network)
            a, b = source.sample(range(nodes), 2)
            self.assertEqual(bench.seen(a, b), impedance(network, a, b))
            for at, name in enumerate(bench.names):
                rest = nodes, network[1][:at] + network[1][at + 1:]
                self.assertEqual(outcome(bench.seen_without, name, a, b), outcome(impedance, rest, a, b))
                self.assertEqual((bench.network, bench.names), (network, NAMES[:len(network[1])]))
        # Looking is nothing to undo.
        bench.undo()
        self.assertEqual(bench.network, (network[0], network[1][:-1]))

    def test_errors_of_impedance(self):
        bench = bench_of((4, (("R", 0, 1, ONES), ("Z", 1, 2, ONE), ("Z", 1, 2, MINUS))))
        for value in BAD_NODES + (4,):
            self.raises(BadNode, bench.seen, value, 1)
            self.raises(BadNode, bench.seen, 1, value)
            self.raises(BadNode, bench.seen_without, "a", value, 1)
            self.raises(BadNode, bench.seen_without, "a", 1, value)
        self.raises(BadNode, bench.seen, 2, 2)
        self.raises(BadNode, bench.seen_without, "a", 2, 2)
        self.raises(NotJoined, bench.seen, 0, 3)
        self.raises(NotJoined, bench.seen_without, "a", 0, 1)
        self.raises(NoFunction, bench.seen, 0, 2)
        self.raises(NoFunction, bench.seen_without, "a", 1, 2)
        self.assertEqual(bench.seen_without("c", 0, 2), ((2,), (1,)))
        large = bench_of((3, (("Z", 0, 1, power(7)), ("Z", 1, 2, (power(6)[1], power(6)[0])), ("R", 0, 2, ONES))))
        self.assertEqual(self.raises(TooLarge, large.seen, 0, 2).most, 12)
        self.raises(TooLarge, large.seen_without, "c", 0, 2)
        self.assertEqual(large.seen_without("a", 1, 0), ((1,) + (0,) * 5 + (1,), power(6)[0]))

    def test_errors_of_take_first(self):
        bench = bench_of((2, (("R", 0, 1, ONES),)))
        for value in BAD_NAMES:
            self.raises(BadName, bench.seen_without, value, 0, 1)
            self.raises(BadName, bench.seen_without, value, 0, 0)
        self.raises(NoPart, bench.seen_without, "b", 0, 1)
        self.raises(NoPart, bench.seen_without, "b", None, 7)


def outcome(call, *arguments):
    """What a call returns, or the class of its error."""
    try:
        return call(*arguments)
    except (NotJoined, NoFunction, TooLarge) as error:
        return type(error)


class Undo(CoilTest):

    def test_steps(self):
        """Each undo takes back one more put or take."""
        source = random.Random(534)
        for _ in range(30):
            bench = Bench(3)
            past = []
            for _ in range(40):
                now = bench.names, bench.network
                choice = source.choice(("put", "put", "take", "undo"))
                if choice == "undo":
                    if past:
                        self.assertIsNone(bench.undo())
                        self.assertEqual((bench.names, bench.network), past.pop())
                    else:
                        self.raises(NothingToUndo, bench.undo)
                elif choice == "take" and bench.names:
                    bench.take(source.choice(bench.names))
                    past.append(now)
                elif choice == "put" and len(bench) < 14:
                    name = source.choice([name for name in NAMES if name not in bench])
                    bench.put(name, source.choice("RLC"), 0, source.choice((1, 2)), ONES)
                    past.append(now)

    def test_behind_each(self):
        bench = bench_of((2, (("R", 0, 1, ONES), ("L", 0, 1, ONES))))
        bench.take("a")
        bench.put("a", "C", 1, 0, ONES)
        self.assertEqual(bench.names, ("b", "a"))
        bench.undo()
        self.assertEqual(bench.names, ("b",))
        bench.undo()
        self.assertEqual((bench.names, bench.network), (("a", "b"), (2, (("R", 0, 1, ONES), ("L", 0, 1, ONES)))))
        bench.undo()
        bench.undo()
        self.assertEqual(bench.network, (2, ()))
        self.raises(NothingToUndo, bench.undo)
        bench.put("c", "R", 0, 1, ONES)
        bench.undo()
        self.raises(NothingToUndo, bench.undo)
        self.raises(NothingToUndo, Bench(1).undo)


class Inside(CoilTest):

    def test_names(self):
        bench = bench_of((2, (("R", 0, 1, ONES),) * 2))
        for value, wanted in (("a", True), ("b", True), ("c", False), ("A", False), ("ab", False), ("", False)):
            self.assertIs(value in bench, wanted)
        bench.take("a")
        self.assertNotIn("a", bench)

    def test_any_value(self):
        bench = bench_of((2, (("R", 0, 1, ONES),) * 2))
        for value in BAD_NAMES + (bench, Bench(1), bench.names, bench.network, bench.network[1][0], 0, 1):
            self.assertIs(value in bench, False)
            self.assertIs(value in Bench(1), False)

    def test_returned_values(self):
        """What was returned stays as it is when the bench changes."""
        bench = bench_of((2, (("R", 0, 1, ONES),)))
        names, network = bench.names, bench.network
        bench.put("b", "R", 0, 1, ONES)
        self.assertEqual((names, network), (("a",), (2, (("R", 0, 1, ONES),))))
        self.assertEqual((len(bench), type(bench.names), type(bench.network)), (2, tuple, tuple))


class Equal(CoilTest):

    def test_equal(self):
        source = random.Random(535)
        for _ in range(10):
            network = some_network(source, 4, source.randint(3, 8))
            one, other = bench_of(network), bench_of(network)
            self.assertTrue(one == other)
            self.assertFalse(one != other)
        # The way does not count.
        other.put("zz", "R", 0, 1, ONES)
        self.assertFalse(one == other)
        other.take("zz")
        self.assertTrue(one == other)
        other.undo()
        other.undo()
        self.assertTrue(one == other)
        self.assertTrue(Bench(3) == Bench(3))

    def test_different(self):
        network = (3, (("R", 0, 1, ONES), ("L", 0, 1, ONES)))
        one = bench_of(network)
        for other in (bench_of(network, ("a", "c")), bench_of(network, ("b", "a")), bench_of((4, network[1])),
                      bench_of((3, network[1][::-1])), bench_of((3, network[1][::-1]), ("b", "a")),
                      bench_of((3, network[1][:1])), bench_of((3, (("R", 0, 1, (2, 1)), network[1][1]))),
                      bench_of((3, (("R", 1, 0, ONES), network[1][1]))),
                      bench_of((3, (("R", 0, 2, ONES), network[1][1]))),
                      bench_of((3, (("C", 0, 1, ONES), network[1][1]))), Bench(3)):
            self.assertFalse(one == other)
            self.assertTrue(one != other)
        self.assertFalse(Bench(2) == Bench(3))

    def test_other_values(self):
        for value in ODDITIES + (network_value(), (), (2, ())):
            self.assertFalse(Bench(2) == value)
            self.assertTrue(Bench(2) != value)
            self.assertFalse(value == Bench(2))


def network_value():
    return Bench(2).network


if __name__ == "__main__":
    unittest.main()
