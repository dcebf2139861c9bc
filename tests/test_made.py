import random
import unittest
from itertools import combinations_with_replacement
from unittest import mock

from gatekin.errors import TooMany
from gatekin.made import made, tables_made
from tests.checks import Checks, tables_of
from tests.plain import drawn_gate, kinds_within, least_tables, limit, some_gates, tables_of_inputs

LOW, HIGH, NOT, SAME = (0, 0), (0, 1), (1, 1), (1, 2)
AND, OR, XOR, NAND = (2, 8), (2, 14), (2, 6), (2, 7)
CHOICE, MOST_OF_THREE = (3, 202), (3, 232)
PARITY, ALL_FOUR, NONE_OF_FOUR, NOT_ALL_FOUR = (4, 27030), (4, 32768), (4, 1), (4, 32767)
# x and (y or z), as a gate of three inputs and of four: ten tables over three inputs.
TEN, TEN_OF_FOUR = (3, 168), (4, 168 * 257)
# Sets that make all, in unlike ways.
FULL_SETS = [
    [NAND], [(2, 1)], [AND, NOT], [NOT, OR], [XOR, AND, HIGH], [(2, 11), LOW], [(2, 13), XOR], [CHOICE, LOW, HIGH],
    [MOST_OF_THREE, NOT, LOW], [(2, 9), XOR, AND], [NONE_OF_FOUR], [NOT_ALL_FOUR], [PARITY, ALL_FOUR, HIGH],
    [(4, 43690), (4, 27030 ^ 1)], [ALL_FOUR, PARITY, (4, 38505), SAME, HIGH, LOW], [NOT_ALL_FOUR] * 6,
]


class TablesMade(unittest.TestCase):
    def assert_tables(self, gates, inputs):
        kept = list(gates)
        expected = least_tables(gates, inputs)
        if expected is None:
            self.assertRaises(TooMany, tables_made, gates, inputs)
        else:
            told = tables_made(gates, inputs)
            self.assertLessEqual(kinds_within(told), {tuple, int})
            self.assertIs(type(told), tuple)
            self.assertEqual(told, expected)
        self.assertEqual(gates, kept)

    def test_examples(self):
        self.assertEqual(tables_made([AND], 2), (8, 10, 12))
        self.assertEqual(tables_made([AND, OR], 2), (8, 10, 12, 14))
        self.assertEqual(tables_made([XOR], 2), (0, 6, 10, 12))
        self.assertEqual(tables_made([NAND], 1), (0, 1, 2, 3))
        self.assertEqual(tables_made([MOST_OF_THREE], 3), (170, 204, 232, 240))
        self.assertEqual(tables_made([NOT, HIGH], 0), (0, 1))

    def test_no_gates(self):
        self.assertEqual([tables_made([], n) for n in range(4)], [(), (2,), (10, 12), (170, 204, 240)])

    def test_constants_alone(self):
        self.assertEqual([tables_made([LOW], n) for n in range(4)], [(0,), (0, 2), (0, 10, 12), (0, 170, 204, 240)])
        self.assertEqual([tables_made([HIGH], n) for n in range(4)], [(1,), (2, 3), (10, 12, 15), (170, 204, 240, 255)])
        self.assertEqual([tables_made([HIGH, LOW, HIGH], n) for n in range(3)], [(0, 1), (0, 2, 3), (0, 10, 12, 15)])

    def test_nothing_is_made_of_nothing(self):
        for gates in ([NAND], [NOT, AND], [NONE_OF_FOUR, CHOICE]):
            self.assertEqual(tables_made(gates, 0), ())

    def test_each_gate_alone(self):
        for inputs in range(5):
            for gate in some_gates(inputs, [2, 4, 16, 60, 24][inputs]):
                for n in range(3):
                    self.assert_tables([gate], n)
                if inputs < 3 or gate[1] % 8 < 2:
                    self.assert_tables([gate], 3)

    def test_drawn_sets(self):
        draw = random.Random(31)
        for again in range(60):
            gates = [drawn_gate(draw, 3) for number in range(draw.randrange(4))]
            self.assert_tables(gates + gates[:again % 2], again % 3)
        for again in range(25):
            gates = draw.sample([LOW, HIGH, NOT, SAME, AND, OR, XOR, (2, 9), (2, 10), (2, 2), MOST_OF_THREE, TEN], 3)
            self.assert_tables(gates, 3)

    def test_alike_gates(self):
        for gates in ([AND] * 6, [XOR, XOR], [NOT, LOW, NOT, LOW], [MOST_OF_THREE] * 3):
            for n in range(4):
                self.assertEqual(tables_made(gates, n), tables_made(sorted(set(gates)), n))

    def test_told_where_the_sum_is_20000(self):
        ten = tables_made([TEN], 3)
        self.assertEqual(len(ten), 10)
        self.assertEqual(least_tables([TEN_OF_FOUR], 3), ten)
        self.assertEqual(tables_made([TEN_OF_FOUR, TEN_OF_FOUR], 3), ten)

    def test_refused_where_the_sum_is_more_than_20000(self):
        self.assertRaises(TooMany, tables_made, [TEN_OF_FOUR, TEN_OF_FOUR, SAME], 3)
        self.assertRaises(TooMany, tables_made, [TEN, TEN_OF_FOUR, TEN_OF_FOUR], 3)
        self.assertRaises(TooMany, tables_made, [TEN_OF_FOUR] * 3, 3)
        # Nine tables, 3 * 9 ** 4 + 81 + 2 and 3 * 9 ** 4 + 729 + 2.
        self.assertEqual(len(tables_made([ALL_FOUR] * 3 + [AND, LOW, HIGH], 3)), 9)
        self.assertRaises(TooMany, tables_made, [ALL_FOUR] * 3 + [(3, 128), LOW, HIGH], 3)
        # Sixteen tables, 4 * 4096 and 5 * 4096.
        self.assertEqual(len(tables_made([(3, 150)] * 4 + [NOT, LOW], 3)), 16)
        self.assertRaises(TooMany, tables_made, [(3, 150)] * 3 + [(3, 105)] * 2 + [LOW], 3)
        self.assertRaises(TooMany, tables_made, [(3, 127)] * 5, 2)
        self.assertEqual(len(tables_made([(3, 127)] * 4, 2)), 16)
        self.assertRaises(TooMany, tables_made, [NONE_OF_FOUR], 2)

    def test_refused_where_they_are_more_than_128(self):
        for gates in ([NAND], [NOT, AND], [NAND, LOW, HIGH], [NONE_OF_FOUR]):
            self.assertRaises(TooMany, tables_made, gates, 3)

    def test_the_bound_of_their_count_by_itself(self):
        but = (2, 2)
        self.assertEqual(len(tables_made([but], 3)), 38)
        with mock.patch("gatekin.relations.MOST_CLOSED_ROWS", 38):
            self.assertEqual(len(tables_made([but], 3)), 38)
            self.assertEqual(made([but], (3, 255))[0], "cant")
        with mock.patch("gatekin.relations.MOST_CLOSED_ROWS", 37):
            self.assertRaises(TooMany, tables_made, [but], 3)
            self.assertRaises(TooMany, made, [but], (3, 255))

    def test_never_refused_for_one_input_or_none(self):
        for gates in ([NONE_OF_FOUR] * 6, [PARITY, NOT_ALL_FOUR, ALL_FOUR, CHOICE, LOW, HIGH]):
            self.assertEqual(tables_made(gates, 1), (0, 1, 2, 3))
            self.assertEqual(tables_made(gates, 0), least_tables(gates, 0))

    def test_what_is_handed_in_stays(self):
        gates = [AND, OR, HIGH]
        told = tables_made(gates, 2)
        gates.append(NAND)
        self.assertEqual(told, (8, 10, 12, 14, 15))
        self.assertEqual(tables_made([AND, OR, HIGH], 2), told)


class Made(Checks):
    def assert_made(self, gates, wish, can):
        kept = list(gates)
        told = made(gates, wish)
        self.assertIs(type(told), tuple)
        if can:
            self.assertEqual((told[0], len(told)), ("made", 2))
            self.assert_circuit(told[1], gates, wish)
        else:
            self.assertEqual((told[0], len(told)), ("cant", 3))
            self.assert_breach(told[1], told[2], gates, wish)
        self.assertEqual(gates, kept)

    def assert_by_tables(self, gates, inputs, step=1):
        tables = tables_of(tuple(gates), inputs)
        for bits in range(0, limit(inputs), step):
            self.assert_made(gates, (inputs, bits), bits in tables)

    def test_examples(self):
        self.assertEqual(made([AND], OR), ("cant", (4, (8, 10, 12)), [10, 12]))
        self.assertEqual(made([NOT], HIGH), ("cant", (1, ()), []))
        self.assertEqual(made([], (1, 2)), ("made", (1, (), 0)))
        self.assertEqual(made([HIGH], HIGH), ("made", (0, ((HIGH, ()),), 0)))
        self.assertEqual(made([NOT], (1, 1)), ("made", (1, ((NOT, (0,)),), 1)))

    def test_sets_of_small_gates(self):
        gates = [LOW, HIGH, NOT, SAME, AND, OR, XOR, (2, 9), (2, 2), (2, 11), (2, 10)]
        for chosen in [[]] + [list(two) for two in combinations_with_replacement(gates, 2)]:
            for inputs in range(3):
                self.assert_by_tables(chosen, inputs)

    def test_three_inputs(self):
        for gates in ([], [LOW], [NOT, HIGH], [AND], [AND, OR], [XOR, HIGH], [MOST_OF_THREE, NOT], [(2, 2)], [TEN],
                      [(3, 150), MOST_OF_THREE], [PARITY], [ALL_FOUR, LOW]):
            self.assert_by_tables(gates, 3, 7)

    def test_drawn_sets(self):
        draw = random.Random(32)
        for again in range(60):
            gates = [drawn_gate(draw, 3) for number in range(draw.randrange(1, 4))]
            inputs = again % 3
            tables = least_tables(gates, inputs)
            for bits in draw.sample(range(limit(inputs)), min(3, limit(inputs))):
                self.assert_made(gates, (inputs, bits), bits in tables)

    def test_constants(self):
        for gates in ([], [NAND], [NOT, XOR, CHOICE], [NONE_OF_FOUR]):
            self.assert_made(gates, LOW, False)
            self.assert_made(gates, HIGH, False)
        self.assert_made([LOW], HIGH, False)
        self.assert_made([HIGH, AND, OR], LOW, False)
        self.assert_made([LOW, NOT], HIGH, True)
        self.assert_made([HIGH, XOR], LOW, True)
        self.assert_made([NONE_OF_FOUR, HIGH], LOW, True)

    def test_sets_that_make_all(self):
        for gates in FULL_SETS:
            for inputs in (1, 2, 3):
                for bits in range(0, limit(inputs), [1, 1, 5, 23][inputs]):
                    self.assert_made(gates, (inputs, bits), True)
            for wish in (LOW, HIGH):
                self.assert_made(gates, wish, wish[1] in least_tables(gates, 0))

    def test_alike_gates(self):
        self.assert_made([AND, AND, AND], OR, False)
        self.assert_made([AND, AND, NOT, NOT], OR, True)

    def test_refused_as_the_tables_are(self):
        for gates in ([AND, XOR], [CHOICE], [(2, 9), OR], [TEN_OF_FOUR, TEN_OF_FOUR, SAME], [(3, 150), (3, 105), LOW, (3, 150), (3, 150), (3, 150)]):
            self.assertRaises(TooMany, tables_made, gates, 3)
            for bits in (0, 1, 128, 170, 202, 255):
                self.assertRaises(TooMany, made, gates, (3, bits))
            self.assert_by_tables(gates, 1)
            self.assert_by_tables(gates, 0)
        self.assert_by_tables([AND, XOR], 2)
        self.assert_by_tables([CHOICE], 2)

    def test_told_at_the_bound(self):
        for bits in (168, 170, 128, 254, 0):
            self.assertEqual(made([TEN_OF_FOUR] * 2, (3, bits))[0], made([TEN], (3, bits))[0])
        told = made([TEN_OF_FOUR] * 2, (3, 168))
        self.assert_circuit(told[1], [TEN_OF_FOUR], (3, 168))

    def test_what_is_told_is_the_askers_own(self):
        gates = [AND]
        told = made(gates, OR)
        again = made(gates, OR)
        told[2].append(7)
        told[2][0] = 1
        gates.append(NOT)
        self.assertEqual(again, ("cant", (4, (8, 10, 12)), [10, 12]))
        self.assertEqual(made([AND], OR), again)
        none = made([], HIGH)
        none[2].append(3)
        self.assertEqual(made([], HIGH), ("cant", (1, ()), []))


class Plain(unittest.TestCase):
    def test_the_plain_reckoning_agrees_with_the_document(self):
        self.assertEqual(tables_of_inputs(3), [170, 204, 240])
        self.assertEqual(least_tables([AND], 2), (8, 10, 12))


if __name__ == "__main__":
    unittest.main()
