import random
import unittest
from itertools import combinations_with_replacement

from gatekin.build import build, makes_all
from gatekin.circuits import is_circuit
from gatekin.errors import GateError, NotAll
from gatekin.kinds import KINDS, outsider
from tests.plain import circuit_gate, drawn_gate, first_broken, kinds_within, least_tables, limit, some_gates
from tests.test_kinds import RELATIONS
from tests.test_made import FULL_SETS

LOW, HIGH, NOT, SAME = (0, 0), (0, 1), (1, 1), (1, 2)
AND, OR, XOR, NAND = (2, 8), (2, 14), (2, 6), (2, 7)


def kept_kinds(gates):
    return [name for name in KINDS if all(first_broken(gate, RELATIONS[name]) is None for gate in gates)]


def full_set(draw, most):
    while True:
        gates = [drawn_gate(draw, most) for number in range(draw.randrange(1, 7))]
        if not kept_kinds(gates):
            return gates


class MakesAll(unittest.TestCase):
    def assert_makes_all(self, gates):
        kept = list(gates)
        told = makes_all(gates)
        self.assertIs(type(told), bool)
        self.assertIs(told, not kept_kinds(gates))
        self.assertEqual(gates, kept)
        return told

    def test_examples(self):
        for gates in FULL_SETS:
            self.assertIs(makes_all(gates), True)
        for gates in ([], [LOW, HIGH], [NOT], [AND, OR, LOW, HIGH], [XOR, NOT, HIGH], [(3, 202)], [(3, 232), NOT],
                      [(2, 11), AND, OR], [AND, XOR, OR, LOW], [(4, 27030), (4, 38505), LOW, HIGH]):
            self.assertIs(makes_all(gates), False)

    def test_each_one_and_two_of_two_inputs_against_what_can_be_made(self):
        count = 0
        for one, other in combinations_with_replacement(range(16), 2):
            gates = [(2, one), (2, other)]
            told = self.assert_makes_all(gates)
            count += told
            # With all tables over two inputs NAND is made, and of it all of any inputs.
            self.assertIs(told, len(least_tables(gates, 2)) == 16)
            if told:
                self.assertEqual(least_tables(gates, 1), (0, 1, 2, 3))
            else:
                shut_out = outsider(kept_kinds(gates)[0])
                self.assertNotIn(shut_out[1], least_tables(gates, shut_out[0]))
            if one == other:
                self.assertIs(makes_all([(2, one)]), told)
                self.assertIs(told, one in (1, 7))
        self.assertGreater(count, 31)

    def test_small_gates_with_constants(self):
        gates = [LOW, HIGH, NOT, SAME] + [(2, bits) for bits in range(16)]
        for one, other in combinations_with_replacement(gates, 2):
            for third in (LOW, HIGH, NOT):
                told = self.assert_makes_all([one, third, other])
                self.assertIs(told, len(least_tables([one, third, other], 2)) == 16)

    def test_gates_of_three_inputs(self):
        for bits in range(256):
            told = self.assert_makes_all([(3, bits)])
            self.assertIs(told, len(least_tables([(3, bits)], 2)) == 16)

    def test_drawn_sets(self):
        draw = random.Random(33)
        for again in range(60):
            self.assert_makes_all([drawn_gate(draw) for number in range(draw.randrange(1, 7))])


class Build(unittest.TestCase):
    def assert_build(self, gates, wish):
        kept = list(gates)
        told = build(gates, wish)
        self.assertTrue(is_circuit(told))
        self.assertLessEqual(len(told[1]), 600)
        self.assertLessEqual(kinds_within(told), {tuple, int})
        self.assertLessEqual({step[0] for step in told[1]}, set(gates))
        self.assertEqual(circuit_gate(told), wish)
        self.assertEqual(gates, kept)
        return told

    def test_sets_that_make_all_in_unlike_ways(self):
        for gates in FULL_SETS:
            for inputs in (1, 2, 3, 4):
                for wish in some_gates(inputs, [0, 4, 16, 20, 8][inputs]):
                    self.assert_build(gates, wish)

    def test_each_set_of_two_gates_of_two_inputs(self):
        for one, other in combinations_with_replacement(range(16), 2):
            gates = [(2, one), (2, other)]
            if makes_all(gates):
                for wish in [(1, bits) for bits in range(4)] + [(2, bits) for bits in range(16)]:
                    self.assert_build(gates, wish)
                for wish in [(3, 150), (3, 232), (4, 27030), (4, 59624), (4, 0), (4, 65535)]:
                    self.assert_build(gates, wish)

    def test_drawn_sets(self):
        draw = random.Random(34)
        for again in range(200):
            gates = full_set(draw, 2 + again % 3)
            inputs = draw.randrange(1, 5)
            self.assert_build(gates, (inputs, draw.randrange(limit(inputs))))

    def test_gates_of_four_inputs_alone(self):
        draw = random.Random(35)
        for again in range(80):
            gates = [(4, 1 + 2 * draw.randrange(16384)) for number in range(draw.randrange(1, 3))]
            if not kept_kinds(gates):
                for inputs in (1, 2, 3, 4):
                    self.assert_build(gates, (inputs, draw.randrange(limit(inputs))))

    def test_all_wishes_of_four_inputs(self):
        for bits in range(65536):
            inputs, steps, out = build([NAND], (4, bits))
            tables = [43690, 52428, 61680, 65280]
            for gate, (one, other) in steps:
                self.assertEqual(gate, NAND)
                tables.append(65535 - (tables[one] & tables[other]))
            self.assertEqual((inputs, tables[out]), (4, bits))
            self.assertLessEqual(len(steps), 600)

    def test_another_set_is_refused(self):
        wishes = [(1, 2), (1, 0), (2, 8), (3, 232), (4, 27030), (4, 65535)]
        for one, other in combinations_with_replacement(range(16), 2):
            kept = kept_kinds([(2, one), (2, other)])
            for wish in wishes if kept else []:
                self.assert_refused([(2, one), (2, other)], wish, kept[0])
        for wish in wishes:
            self.assert_refused([], wish, "low")
            self.assert_refused([NOT, XOR], wish, "even")
            self.assert_refused([HIGH, AND, OR], wish, "high")
            self.assert_refused([HIGH, LOW, AND, OR], wish, "rise")
            self.assert_refused([NOT, (3, 232)], wish, "turn")
            self.assert_refused([(4, 27030), (4, 38505), LOW], wish, "even")

    def assert_refused(self, gates, wish, kind):
        kept = list(gates)
        with self.assertRaises(NotAll) as caught:
            build(gates, wish)
        self.assertEqual(caught.exception.kind, kind)
        self.assertIsInstance(caught.exception, GateError)
        self.assertEqual(gates, kept)

    def test_what_is_told_is_the_askers_own(self):
        gates = [AND, NOT]
        told = build(gates, (3, 150))
        kept = repr(told)
        gates.clear()
        self.assertRaises(NotAll, build, gates, (3, 150))
        self.assertEqual(repr(told), kept)
        self.assertEqual(build([AND, NOT], (3, 150)), told)


if __name__ == "__main__":
    unittest.main()
