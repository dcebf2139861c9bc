import random
import unittest
from itertools import product

from gatekin.gates import is_gate
from gatekin.kinds import KINDS, kind, kinds, outsider
from tests.plain import drawn_gate, first_broken, kinds_within, least_tables, limit, row_put, some_gates

LOW, HIGH, NOT, SAME = (0, 0), (0, 1), (1, 1), (1, 2)
AND, OR, XOR, NAND = (2, 8), (2, 14), (2, 6), (2, 7)
RELATIONS = {
    "low": (1, (0,)),
    "high": (1, (1,)),
    "turn": (2, (1, 2)),
    "rise": (2, (0, 2, 3)),
    "even": (4, tuple(row for row in range(16) if bin(row).count("1") % 2 == 0)),
}


def first_breaches(gates):
    told = []
    for relation in RELATIONS.values():
        found = [(number, first_broken(gate, relation)) for number, gate in enumerate(gates)]
        told.append(next((breach for breach in found if breach[1] is not None), None))
    return told


class Names(unittest.TestCase):
    def test_the_five_in_their_order(self):
        self.assertEqual(KINDS, ("low", "high", "turn", "rise", "even"))
        self.assertIs(type(KINDS), tuple)

    def test_their_relations(self):
        for name in KINDS:
            self.assertEqual(kind(name), RELATIONS[name])
            self.assertEqual(kinds_within(kind(name)), {tuple, int})
        self.assertEqual(kind("even"), (4, (0, 3, 5, 6, 9, 10, 12, 15)))


class Kinds(unittest.TestCase):
    def assert_kinds(self, gates):
        kept = list(gates)
        told = kinds(gates)
        self.assertIs(type(told), list)
        self.assertLessEqual(kinds_within(told), {list, tuple, int, type(None)})
        self.assertEqual(told, first_breaches(gates))
        self.assertEqual(gates, kept)

    def test_examples(self):
        self.assertEqual(kinds([NAND]), [(0, [0, 0]), (0, [1, 1]), (0, [1, 2]), (0, [2, 2]), (0, [3, 5])])
        self.assertEqual(kinds([AND, OR]), [None, None, (0, [1, 2]), None, (0, [3, 5])])
        self.assertEqual(kinds([XOR, HIGH]), [(1, []), (0, [1, 1]), (0, [1, 1]), (0, [2, 3]), None])
        self.assertEqual(kinds([SAME, NOT, LOW]), [(1, [0]), (1, [1]), (2, []), (1, [2]), None])

    def test_without_gates_all_are_kept(self):
        self.assertEqual(kinds([]), [None] * 5)

    def test_constants(self):
        self.assertEqual(kinds([LOW]), [None, (0, []), (0, []), None, None])
        self.assertEqual(kinds([HIGH]), [(0, []), None, (0, []), None, None])
        self.assertEqual(kinds([LOW, HIGH]), [(1, []), (0, []), (0, []), None, None])

    def test_each_gate_alone(self):
        for inputs in range(5):
            for gate in some_gates(inputs, 256 if inputs < 4 else 60):
                self.assert_kinds([gate])

    def test_each_two_of_two_inputs(self):
        for one, other in product(range(16), repeat=2):
            self.assert_kinds([(2, one), (2, other)])

    def test_drawn_sets(self):
        draw = random.Random(30)
        for again in range(150):
            self.assert_kinds([drawn_gate(draw) for number in range(draw.randrange(7))])

    def test_the_first_gate_is_told_though_a_later_one_breaks_it_sooner(self):
        self.assertEqual(kinds([SAME, (2, 2), NOT])[3], (1, [3, 2]))
        self.assertEqual(kinds([AND, AND, NAND, NAND])[0], (2, [0, 0]))

    def test_even_with_four_inputs_is_never_refused(self):
        parity, turned_parity = (4, 27030), (4, 38505)
        self.assertEqual(kinds([parity] * 6)[4], None)
        self.assertEqual(kinds([parity, turned_parity] * 3)[4], None)
        self.assert_kinds([parity, turned_parity, (4, 43690), (4, 0), (4, 65535), (4, 32768)])
        last = (4, 27030 ^ 1)
        self.assert_kinds([last])
        self.assertIsNotNone(kinds([parity] * 5 + [last])[4])

    def test_what_is_told_is_the_askers_own(self):
        gates = [AND, OR]
        told = kinds(gates)
        again = kinds(gates)
        told[2][1].append(9)
        told[0] = (5, [])
        told.append(None)
        gates[0] = XOR
        self.assertEqual(again, [None, None, (0, [1, 2]), None, (0, [3, 5])])
        self.assertEqual(kinds([AND, OR]), again)
        self.assertEqual([kind(name) for name in KINDS], list(RELATIONS.values()))


class Outsider(unittest.TestCase):
    def test_breaks_its_kind(self):
        for name in KINDS:
            told = outsider(name)
            self.assertTrue(is_gate(told))
            self.assertLessEqual(told[0], 2)
            self.assertIsNotNone(first_broken(told, RELATIONS[name]))

    def test_no_set_that_keeps_the_kind_makes_it(self):
        gates = [(inputs, bits) for inputs in range(3) for bits in range(limit(inputs))]
        for name in KINDS:
            keepers = [gate for gate in gates if first_broken(gate, RELATIONS[name]) is None]
            shut_out = outsider(name)
            for one, other in product(keepers, repeat=2):
                self.assertNotIn(shut_out[1], least_tables([one, other], shut_out[0]))

    def test_told_again_alike(self):
        self.assertEqual([outsider(name) for name in KINDS], [outsider(name) for name in KINDS])


class Plain(unittest.TestCase):
    def test_the_plain_reckoning_agrees_with_the_document(self):
        self.assertEqual(first_breaches([NAND])[2], (0, [1, 2]))
        self.assertEqual(row_put(XOR, [3, 5], 4), 6)


if __name__ == "__main__":
    unittest.main()
