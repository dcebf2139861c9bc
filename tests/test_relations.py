import random
import unittest
from itertools import product

from gatekin.errors import NoRelation, TooMany
from gatekin.relations import broken, closed, keeps, put_rows, relation
from tests.plain import (
    GREAT, columns_of, drawn_gate, drawn_relation, first_broken, gate_value, kinds_within, least_closed, limit, number,
    row_put, some_gates,
)

AND, OR, XOR, NOT = (2, 8), (2, 14), (2, 6), (1, 1)
LOW, HIGH = (0, 0), (0, 1)
SAME, FIRST, SECOND = (1, 2), (2, 10), (2, 12)
MOST_OF_THREE = (3, 232)

LOW_KIND, HIGH_KIND, TURN, RISE = (1, (0,)), (1, (1,)), (2, (1, 2)), (2, (0, 2, 3))
EVEN = (4, tuple(row for row in range(16) if bin(row).count("1") % 2 == 0))
KINDS = [LOW_KIND, HIGH_KIND, TURN, RISE, EVEN]


class TestCase(unittest.TestCase):
    def assert_relation(self, told, expected):
        self.assertLessEqual(kinds_within(told), {tuple, int})
        self.assertEqual(told, expected)

    def assert_rows(self, told, expected):
        """A list of rows, or None."""
        self.assertLessEqual(kinds_within(told), {list, int, type(None)})
        self.assertEqual(told, expected)


class Relation(TestCase):
    def test_examples(self):
        self.assert_relation(relation(2, [0, 2, 3]), RISE)
        self.assert_relation(relation(1, [0]), LOW_KIND)
        self.assert_relation(relation(4, list(EVEN[1])), EVEN)

    def test_any_order_and_doubles(self):
        self.assert_relation(relation(2, [3, 0, 2]), RISE)
        self.assert_relation(relation(2, [3, 0, 2, 3, 3, 0]), RISE)
        self.assert_relation(relation(16, [65535, 0, 65535, 9, 10, 100, 9]), (16, (0, 9, 10, 100, 65535)))
        draw = random.Random(18)
        for width in range(17):
            for count in (1, 2, 5, 30, 256):
                told = drawn_relation(draw, width, count)
                rows = list(told[1]) + [draw.choice(told[1]) for again in range(count)]
                draw.shuffle(rows)
                self.assert_relation(relation(width, rows), told)

    def test_without_rows(self):
        for width in range(17):
            self.assert_relation(relation(width, []), (width, ()))

    def test_without_columns(self):
        self.assert_relation(relation(0, []), (0, ()))
        self.assert_relation(relation(0, [0]), (0, (0,)))
        self.assert_relation(relation(0, [0, 0, 0]), (0, (0,)))

    def test_the_ends_of_each_width(self):
        for width in range(17):
            last = 2 ** width - 1
            self.assert_relation(relation(width, [last]), (width, (last,)))
            self.assert_relation(relation(width, [last, 0]), (width, tuple(sorted({0, last}))))
            for row in (-1, -2, last + 1, last + 2, -GREAT, GREAT):
                for rows in ([row], [0, row], [row, 0], [0, last, row, last]):
                    self.assertRaises(NoRelation, relation, width, rows)

    def test_widths_out_of_bounds(self):
        for width in (-1, -2, 17, 18, 20, 100, GREAT, -GREAT):
            for rows in ([], [0], [1], [0, 0], [-1], [GREAT]):
                self.assertRaises(NoRelation, relation, width, rows)

    def test_256_unlike_rows(self):
        for width in (8, 9, 12, 16):
            for first in (0, 2 ** width - 256):
                rows = list(range(first, first + 256))
                self.assert_relation(relation(width, rows), (width, tuple(rows)))
                self.assert_relation(relation(width, rows[::-1] + rows[:44]), (width, tuple(rows)))
        rows = [row * 256 for row in range(256)]
        self.assertEqual(len(rows + rows[-44:]), 300)
        self.assert_relation(relation(16, rows + rows[-44:]), (16, tuple(rows)))
        self.assert_relation(relation(8, list(range(256)) * 20), (8, tuple(range(256))))

    def test_257_unlike_rows(self):
        for width in (9, 10, 16):
            for first in (0, 2 ** width - 257):
                rows = list(range(first, first + 257))
                self.assertRaises(NoRelation, relation, width, rows)
                self.assertRaises(NoRelation, relation, width, rows[::-1])
                self.assertRaises(NoRelation, relation, width, rows[:256] * 2 + rows[256:])
        self.assertRaises(NoRelation, relation, 16, list(range(65536)))

    def test_what_is_handed_in_stays(self):
        rows = [3, 0, 2, 3, 0]
        told = relation(2, rows)
        self.assertEqual(rows, [3, 0, 2, 3, 0])
        rows.append(1)
        rows[0] = 1
        self.assertEqual(told, RISE)
        self.assertEqual(relation(2, [3, 0, 2, 3, 0]), RISE)
        for rows in ([0, 4], list(range(300))):
            kept = list(rows)
            self.assertRaises(NoRelation, relation, 2, rows)
            self.assertEqual(rows, kept)


class PutRows(TestCase):
    def assert_put(self, gate, rows, width):
        kept = list(rows)
        told = put_rows(gate, rows, width)
        self.assertIs(type(told), int)
        values = [gate_value(gate, [columns_of(row, width)[column] for row in kept]) for column in range(width)]
        self.assertEqual(columns_of(told, width), values)
        self.assertEqual(told, number(values))
        self.assertEqual(rows, kept)

    def test_examples(self):
        self.assertEqual(put_rows(AND, [12, 10], 4), 8)
        self.assertEqual(put_rows(XOR, [12, 10], 4), 6)
        self.assertEqual(put_rows((2, 2), [12, 10], 4), 4)
        self.assertEqual(put_rows((2, 2), [10, 12], 4), 2)
        self.assertEqual(put_rows(NOT, [5], 3), 2)
        self.assertEqual(put_rows(NOT, [5], 16), 65530)

    def test_constants(self):
        for width in range(17):
            self.assert_put(LOW, [], width)
            self.assertEqual(put_rows(LOW, [], width), 0)
            self.assertEqual(put_rows(HIGH, [], width), 2 ** width - 1)

    def test_without_columns(self):
        for inputs in range(5):
            for gate in some_gates(inputs, 20):
                self.assertEqual(put_rows(gate, [0] * inputs, 0), 0)

    def test_each_gate(self):
        draw = random.Random(19)
        for inputs in range(5):
            for gate in some_gates(inputs, 100):
                for width in (0, 1, 2, 3, 5, 8, 15, 16):
                    rows = [draw.randrange(2 ** width) for j in range(inputs)]
                    self.assert_put(gate, rows, width)
                    self.assert_put(gate, rows[:1] * inputs, width)
                    self.assert_put(gate, [2 ** width - 1] * inputs, width)

    def test_to_the_columns_of_all_values_gives_the_bits(self):
        tables = [[], [2], [10, 12], [170, 204, 240], [43690, 52428, 61680, 65280]]
        for inputs in range(5):
            for gate in some_gates(inputs):
                self.assertEqual(put_rows(gate, tables[inputs], 2 ** inputs), gate[1])


class Broken(TestCase):
    def assert_broken(self, gate, told):
        kept = repr(told)
        expected = first_broken(gate, told)
        self.assert_rows(broken(gate, told), expected)
        self.assertIs(keeps(gate, told), expected is None)
        self.assertEqual(repr(told), kept)

    def test_examples(self):
        self.assert_rows(broken(NOT, RISE), [2])
        self.assert_rows(broken(XOR, RISE), [2, 3])
        self.assert_rows(broken(AND, RISE), None)
        self.assert_rows(broken(AND, TURN), [1, 2])
        self.assert_rows(broken(NOT, LOW_KIND), [0])
        self.assert_rows(broken(AND, EVEN), [3, 5])
        self.assert_rows(broken(XOR, HIGH_KIND), [1, 1])
        self.assertIs(keeps(NOT, RISE), False)
        self.assertIs(keeps(AND, RISE), True)
        self.assertIs(keeps(MOST_OF_THREE, TURN), True)

    def test_first_as_lists_are_ordered(self):
        self.assert_rows(broken((2, 2), (2, (1, 2, 3))), [1, 1])
        self.assert_rows(broken((2, 2), (2, (0, 1, 3))), [3, 1])
        self.assert_rows(broken((2, 4), (2, (0, 1, 3))), [1, 3])
        self.assert_rows(broken(AND, (4, (0, 3, 9, 10, 12))), [3, 9])
        self.assert_rows(broken(OR, (16, (0, 256, 4096, 65535))), [256, 4096])
        self.assert_rows(broken((3, 128), (3, (0, 3, 5))), [3, 3, 5])
        self.assert_rows(broken((4, 32768), (3, (0, 3, 6))), [3, 3, 3, 6])

    def test_constants(self):
        for width in range(1, 17):
            full = 2 ** width - 1
            for rows in ((), (0,), (full,), (0, full), (1,), (1, full)):
                told = (width, tuple(sorted(set(rows))))
                self.assert_rows(broken(LOW, told), None if 0 in rows else [])
                self.assert_rows(broken(HIGH, told), None if full in told[1] else [])
                self.assertIs(keeps(LOW, told), 0 in rows)
                self.assertIs(keeps(HIGH, told), full in told[1])

    def test_without_rows(self):
        for width in (0, 1, 2, 16):
            for gate in (LOW, HIGH):
                self.assert_rows(broken(gate, (width, ())), [])
                self.assertIs(keeps(gate, (width, ())), False)
            for inputs in range(1, 5):
                for gate in some_gates(inputs, 20):
                    self.assert_rows(broken(gate, (width, ())), None)
                    self.assertIs(keeps(gate, (width, ())), True)

    def test_without_columns(self):
        for inputs in range(5):
            for gate in some_gates(inputs, 20):
                self.assert_rows(broken(gate, (0, (0,))), None)
                self.assertIs(keeps(gate, (0, (0,))), True)

    def test_all_rows_are_kept(self):
        for width in range(4):
            for inputs in range(5):
                for gate in some_gates(inputs, 12):
                    self.assert_rows(broken(gate, (width, tuple(range(2 ** width)))), None)

    def test_the_five_kinds(self):
        for inputs in range(5):
            for gate in some_gates(inputs, 256 if inputs < 4 else 24):
                for told in KINDS:
                    self.assert_broken(gate, told)

    def test_each_small_relation(self):
        for width in range(3):
            for marks in range(2 ** 2 ** width):
                told = (width, tuple(row for row in range(2 ** width) if marks >> row & 1))
                for inputs in range(4):
                    for gate in some_gates(inputs, 40):
                        self.assert_broken(gate, told)

    def test_drawn_ones(self):
        draw = random.Random(20)
        for again in range(400):
            width = draw.randrange(1, 17)
            gate = drawn_gate(draw)
            told = drawn_relation(draw, width, draw.randrange(1, [200, 60, 30, 9, 5][gate[0]]))
            self.assert_broken(gate, told)
            if gate[0] < 3 and width < 5:
                self.assert_broken(gate, least_closed(told, [gate]))

    def test_a_list_near_the_end_breaks_it(self):
        self.assert_rows(broken(NOT, (2, (1, 2, 3))), [3])
        self.assert_rows(broken((2, 2), RISE), [3, 2])
        self.assert_rows(broken((2, 4), RISE), [2, 3])
        self.assert_rows(broken((3, 8), RISE), [3, 3, 2])
        self.assert_rows(broken((3, 64), RISE), [2, 3, 3])
        self.assert_rows(broken((4, 128), RISE), [3, 3, 3, 2])
        self.assert_rows(broken((4, 16384), RISE), [2, 3, 3, 3])

    def bounds(self):
        """Gates that give their first input, with the most rows that they are put to."""
        return [((1, 2), 256), ((2, 10), 141), ((3, 170), 27), ((4, 43690), 11)]

    def test_20000_lists_at_most_are_told(self):
        for gate, most in self.bounds():
            for width in (9, 16):
                rows = tuple(row * (2 ** width // 256) for row in range(most))
                self.assert_rows(broken(gate, (width, rows)), None)
                self.assertIs(keeps(gate, (width, rows)), True)
                turned_gate = (gate[0], limit(gate[0]) - 1 - gate[1])
                self.assert_rows(broken(turned_gate, (width, rows)), [0] * gate[0])
                self.assertIs(keeps(turned_gate, (width, rows)), False)

    def test_more_than_20000_lists_are_refused(self):
        for gate, most in self.bounds()[1:]:
            for bits in (gate[1], limit(gate[0]) - 1 - gate[1], 0, limit(gate[0]) - 1):
                for count in (most + 1, most + 2, 256):
                    told = (16, tuple(range(count)))
                    self.assertRaises(TooMany, broken, (gate[0], bits), told)
                    self.assertRaises(TooMany, keeps, (gate[0], bits), told)

    def test_no_count_of_rows_is_too_many_for_none_or_one_input(self):
        told = (8, tuple(range(256)))
        for gate in (LOW, HIGH, NOT, SAME, (1, 0), (1, 3)):
            self.assert_rows(broken(gate, told), None)
            self.assertIs(keeps(gate, told), True)
        told = (16, tuple(range(1, 257)))
        self.assert_rows(broken(LOW, told), [])
        self.assert_rows(broken(HIGH, told), [])
        self.assert_rows(broken(NOT, told), [1])

    def test_what_is_told_is_the_askers_own(self):
        first = broken(XOR, RISE)
        second = broken(XOR, RISE)
        first[0] = 9
        first.append(7)
        self.assertEqual(second, [2, 3])
        self.assertEqual(broken(XOR, RISE), [2, 3])
        none = broken(HIGH, LOW_KIND)
        none.append(4)
        self.assertEqual(broken(HIGH, LOW_KIND), [])
        self.assertEqual(RISE, (2, (0, 2, 3)))


class Closed(TestCase):
    def assert_closed(self, told, gates):
        kept = repr((told, gates))
        expected = least_closed(told, gates)
        self.assert_relation(closed(told, gates), expected)
        self.assertEqual(repr((told, gates)), kept)
        for gate in gates:
            self.assertIs(keeps(gate, expected), True)
        self.assert_relation(closed(expected, gates), expected)
        self.assert_relation(closed(told, gates[::-1] + gates[:1]), expected)

    def test_examples(self):
        self.assert_relation(closed((3, (1, 2, 4)), [OR]), (3, (1, 2, 3, 4, 5, 6, 7)))
        self.assert_relation(closed((3, (1, 2, 4)), [AND]), (3, (0, 1, 2, 4)))
        self.assert_relation(closed((3, (1, 2, 4)), [XOR]), (3, tuple(range(8))))
        self.assert_relation(closed((3, (1,)), [NOT]), (3, (1, 6)))
        self.assert_relation(closed((3, (3, 5, 6)), [MOST_OF_THREE]), (3, (3, 5, 6, 7)))
        self.assert_relation(closed((2, (0,)), [HIGH, AND]), (2, (0, 3)))

    def test_no_gates(self):
        for told in KINDS + [(0, ()), (0, (0,)), (16, ()), (16, (0, 65535)), (7, tuple(range(128)))]:
            self.assert_relation(closed(told, []), told)

    def test_constants(self):
        for width in range(17):
            full = 2 ** width - 1
            self.assert_relation(closed((width, ()), [LOW]), (width, (0,)))
            self.assert_relation(closed((width, ()), [HIGH]), (width, (full,)))
            self.assert_relation(closed((width, ()), [HIGH, LOW]), (width, tuple(sorted({0, full}))))
            self.assert_relation(closed((width, (full,)), [HIGH]), (width, (full,)))
        self.assert_relation(closed((3, (5,)), [HIGH, XOR]), (3, (0, 2, 5, 7)))
        self.assert_relation(closed((3, ()), [LOW, NOT]), (3, (0, 7)))

    def test_without_rows(self):
        for width in (0, 1, 16):
            self.assert_relation(closed((width, ()), []), (width, ()))
            for inputs in range(1, 5):
                for gate in some_gates(inputs, 10):
                    self.assert_relation(closed((width, ()), [gate, NOT]), (width, ()))

    def test_without_columns(self):
        self.assert_relation(closed((0, ()), [HIGH]), (0, (0,)))
        for inputs in range(5):
            for gate in some_gates(inputs, 10):
                self.assert_relation(closed((0, (0,)), [gate]), (0, (0,)))

    def test_one_gate_each(self):
        for inputs in range(5):
            for gate in some_gates(inputs, 24 if inputs == 4 else 256):
                self.assert_closed((3, (3, 5)), [gate])
                self.assert_closed((2, (1,)), [gate])

    def test_gates_that_need_one_another(self):
        self.assert_closed((4, (3, 5)), [AND, NOT])
        self.assert_closed((4, (3,)), [XOR, HIGH])
        self.assert_closed((4, (12, 10)), [(2, 2), HIGH])
        self.assert_closed((4, (1, 2, 4, 8)), [OR, (3, 128), LOW])
        self.assert_closed((3, (1, 6)), [MOST_OF_THREE, (4, 32768), NOT])

    def test_a_long_way(self):
        # Rows that are found late must be put with the first ones too.
        self.assert_closed((6, (1, 2, 32)), [(3, 202)])
        self.assert_closed((5, (1, 3, 7, 15, 16)), [(2, 11)])
        self.assert_closed((5, (1, 6, 24)), [(2, 7)])
        self.assert_closed((5, (1, 2, 4, 8, 16)), [(2, 13)])

    def test_drawn_ones(self):
        draw = random.Random(21)
        told = refused = 0
        for again in range(250):
            width = draw.randrange(0, 9)
            given = drawn_relation(draw, width, draw.randrange(0, 7))
            gates = [drawn_gate(draw) for k in range(draw.randrange(0, 5))]
            expected = least_closed(given, gates)
            if expected is None:
                self.assertRaises(TooMany, closed, given, gates)
                refused += 1
            else:
                self.assert_relation(closed(given, gates), expected)
                told += 1
        self.assertGreater(told, 50)
        self.assertGreater(refused, 20)

    def test_four_inputs(self):
        draw = random.Random(22)
        for again in range(25):
            gate = (4, draw.randrange(65536))
            self.assert_closed(drawn_relation(draw, 3, 2), [gate])
            self.assert_closed(drawn_relation(draw, 3, 1), [gate, NOT])

    def test_128_rows_are_told(self):
        full = (7, tuple(range(128)))
        self.assert_relation(closed((7, (1, 2, 4, 8, 16, 32, 64)), [XOR]), full)
        self.assert_relation(closed(full, [XOR, NOT, LOW, HIGH]), full)
        self.assert_relation(closed((16, tuple(range(128))), []), (16, tuple(range(128))))
        self.assert_relation(closed((16, tuple(range(127))), [HIGH]), (16, tuple(range(127)) + (65535,)))
        self.assert_relation(closed((16, tuple(range(64))), [NOT]),
                             (16, tuple(range(64)) + tuple(range(65536 - 64, 65536))))

    def test_129_rows_are_refused(self):
        self.assertRaises(TooMany, closed, (16, tuple(range(129))), [])
        self.assertRaises(TooMany, closed, (8, tuple(range(256))), [])
        self.assertRaises(TooMany, closed, (8, tuple(range(256))), [LOW])
        self.assertRaises(TooMany, closed, (16, tuple(range(129))), [SAME])
        self.assertRaises(TooMany, closed, (16, tuple(range(128))), [HIGH])
        self.assertRaises(TooMany, closed, (16, tuple(range(1, 128)) + (65535,)), [HIGH, LOW])
        self.assertRaises(TooMany, closed, (16, tuple(range(65))), [NOT])
        self.assertRaises(TooMany, closed, (8, (1, 2, 4, 8, 16, 32, 64, 128)), [XOR])
        self.assertRaises(TooMany, closed, (16, tuple(2 ** k for k in range(16))), [OR])

    def test_the_sum_of_20000_is_told(self):
        hundred = (16, tuple(range(0, 65000, 650)))
        self.assertEqual(len(hundred[1]), 100)
        self.assert_relation(closed(hundred, [FIRST, SECOND]), hundred)
        ten = (16, tuple(range(0, 65000, 6500)))
        self.assert_relation(closed(ten, [(4, 43690), (4, 52428)]), ten)
        rows = (16, tuple(range(27)))
        self.assert_relation(closed(rows, [(3, 170), SAME, SAME, SAME, LOW]), rows)
        rows = (16, tuple(range(128)))
        self.assert_relation(closed(rows, [FIRST, SAME, SAME, SAME, SAME, LOW]), rows)

    def test_the_sum_at_the_bound_when_it_is_grown_to(self):
        told = closed((16, tuple(range(0, 50))), [NOT, FIRST])
        self.assertEqual(len(told[1]), 100)
        hundred = (16, tuple(range(0, 50)) + tuple(range(65536 - 50, 65536)))
        self.assert_relation(told, hundred)
        self.assertRaises(TooMany, closed, (16, tuple(range(0, 50))), [NOT, FIRST, SECOND])
        ninety = (16, tuple(range(0, 99)))
        self.assert_relation(closed(ninety, [FIRST, SECOND]), ninety)
        self.assertRaises(TooMany, closed, ninety, [FIRST, SECOND, HIGH])

    def test_a_sum_of_more_is_refused(self):
        hundred = (16, tuple(range(100)))
        self.assertRaises(TooMany, closed, hundred, [FIRST, SECOND, LOW])
        self.assertRaises(TooMany, closed, (16, tuple(range(101))), [FIRST, SECOND])
        self.assertRaises(TooMany, closed, (16, tuple(range(10))), [(4, 43690), (4, 52428), LOW])
        self.assertRaises(TooMany, closed, (16, tuple(range(11))), [(4, 43690), (4, 52428)])
        self.assertRaises(TooMany, closed, (16, tuple(range(12))), [(4, 43690)])
        self.assertRaises(TooMany, closed, (16, tuple(range(28))), [(3, 170)])
        self.assertRaises(TooMany, closed, (16, tuple(range(27))), [(3, 170), FIRST])
        self.assertRaises(TooMany, closed, (7, (1, 2, 4, 8, 16, 32, 64)), [XOR, FIRST])
        self.assertRaises(TooMany, closed, (5, (1, 2, 4, 8, 16)), [(3, 150), LOW])

    def test_gates_that_are_alike_count_each(self):
        hundred = (16, tuple(range(100)))
        self.assert_relation(closed(hundred, [FIRST] * 2), hundred)
        self.assertRaises(TooMany, closed, hundred, [FIRST] * 3)

    def test_refused_at_once_where_the_way_would_be_long(self):
        for rows in (range(128), range(256)):
            self.assertRaises(TooMany, closed, (16, tuple(rows)), [(4, 27030)] * 6)
        self.assertRaises(TooMany, closed, (16, (1, 3, 9, 27, 81, 243, 729, 2187)), [(4, 27030)] * 6)

    def test_what_is_told_is_the_askers_own(self):
        gates = [XOR, NOT]
        told = closed((3, (1,)), gates)
        kept = repr(told)
        gates.clear()
        gates.append(LOW)
        self.assertEqual(repr(told), kept)
        self.assertEqual(closed((3, (1,)), [XOR, NOT]), told)
        gates = [OR, AND]
        self.assertRaises(TooMany, closed, (16, tuple(2 ** k for k in range(16))), gates)
        self.assertEqual(gates, [OR, AND])


class AskedAgain(TestCase):
    def test_nothing_asked_changes_what_is_told_later(self):
        gates = [gate for inputs in range(4) for gate in some_gates(inputs, 16)]

        def ask_all():
            return [[put_rows(gate, [5] * gate[0], 3), keeps(gate, told), broken(gate, told), closed(told, [gate])]
                    for gate, told in product(gates, KINDS)]

        first = ask_all()
        kept = repr(first)
        self.assertEqual(ask_all(), first)
        self.assertEqual(repr(first), kept)
        for row in first:
            if row[2] is not None:
                row[2].append(99)
        self.assertEqual(repr(ask_all()), kept)

    def test_the_plain_reckoning_agrees_with_the_document(self):
        self.assertEqual(row_put(AND, [12, 10], 4), 8)
        self.assertEqual(row_put(HIGH, [], 3), 7)
        self.assertEqual(first_broken(NOT, RISE), [2])


if __name__ == "__main__":
    unittest.main()
