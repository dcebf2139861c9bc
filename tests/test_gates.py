import unittest
from itertools import permutations

from gatekin.gates import in_order, input_table, is_gate, matters, put, turned, value, with_set
from tests.plain import GREAT, gate_from, gate_value, limit, number, some_gates, spread, value_lists

AND, OR, XOR, NOT = (2, 8), (2, 14), (2, 6), (1, 1)
LOW, HIGH = (0, 0), (0, 1)
ONE_NOT_OTHER = (2, 2)
ALL_GATES = [gate for inputs in range(5) for gate in some_gates(inputs)]


class TestCase(unittest.TestCase):
    def assert_whole(self, thing, expected):
        self.assertIs(type(thing), int)
        self.assertEqual(thing, expected)

    def assert_gate(self, thing, expected):
        self.assertIs(type(thing), tuple)
        self.assertEqual(len(thing), 2)
        self.assert_whole(thing[0], expected[0])
        self.assert_whole(thing[1], expected[1])


class IsGate(TestCase):
    def assert_good(self, *things):
        for thing in things:
            with self.subTest(thing=thing):
                self.assertIs(is_gate(thing), True)

    def assert_none(self, *things):
        for thing in things:
            with self.subTest(thing=repr(thing)[:60]):
                self.assertIs(is_gate(thing), False)

    def test_good_ones(self):
        for inputs, greatest in enumerate([1, 3, 15, 255, 65535]):
            self.assert_good((inputs, 0), (inputs, 1), (inputs, greatest // 2), (inputs, greatest - 1),
                             (inputs, greatest))

    def test_every_gate_of_at_most_three_inputs(self):
        for inputs in range(4):
            for bits in range(-20, 300):
                self.assertIs(is_gate((inputs, bits)), 0 <= bits < limit(inputs), (inputs, bits))

    def test_gates_of_four_inputs(self):
        for bits in spread(limit(4), 2000):
            self.assertIs(is_gate((4, bits)), True)

    def test_bits_out_of_bounds(self):
        for inputs, greatest in enumerate([1, 3, 15, 255, 65535]):
            self.assert_none((inputs, -1), (inputs, -greatest), (inputs, -GREAT), (inputs, greatest + 1),
                             (inputs, greatest + 2), (inputs, 2 * greatest + 1), (inputs, GREAT),
                             (inputs, 2 ** 64), (inputs, 2 ** 64 + 1), (inputs, 10 ** 400))

    def test_inputs_out_of_bounds(self):
        for inputs in (-1, -2, -5, -GREAT, 5, 6, 7, 16, 64, GREAT, 10 ** 400):
            self.assert_none(*[(inputs, bits) for bits in (-GREAT, -1, 0, 1, 2, 8, 65535, 65536, GREAT)])

    def test_truths_are_no_whole_numbers(self):
        for truth in (True, False):
            self.assert_none(truth, (truth, truth), (truth,), (truth, 0), (truth, 1), (truth, 2))
            self.assert_none(*[(inputs, truth) for inputs in range(-1, 6)])

    def test_wrong_lengths(self):
        self.assert_none((), (0,), (1,), (2,), (0, 0, 0), (2, 8, 0), (2, 8, 8), (1, 1, 1, 1), (2, 8) * 2)

    def test_tuples_within(self):
        self.assert_none(((2, 8),), ((2, 8), 0), (2, (8,)), ((2,), 8), ((2,), (8,)), (2, ()), ((), 8), ((2, 8), (2, 8)))

    def test_things_of_other_kinds(self):
        self.assert_none([2, 8], [], [2], "2:0001", "28", "", None, {}, {2: 8}, {0: 2, 1: 8}, {2, 8}, frozenset((2, 8)),
                         0, 1, 2, 8, -1, GREAT, 2.0, 2j, b"28", b"\x02\x08", bytearray(b"28"), range(2), object(),
                         is_gate, tuple, int, iter((2, 8)), ..., NotImplemented, float("nan"))

    def test_parts_of_other_kinds(self):
        for other in ("2", "", None, [], [2], {}, 2.0, 0.0, 1.0, 2j, b"2", float("nan"), float("inf"), object(), int, ...):
            self.assert_none((other, 8), (other, 0), (2, other), (0, other), (other, other))

    def test_things_that_hold_themselves_or_lie_deep(self):
        around = []
        around.append(around)
        deep = ()
        for k in range(100000):
            deep = (deep, 0)
        things = [around, (around, around), (2, around), deep, (2, deep)]
        self.assertEqual([is_gate(thing) for thing in things], [False] * 5)
        # Unwound by hand, so that no deep row of ends is left to Python.
        things.clear()
        while deep:
            deep = deep[0]


class Value(TestCase):
    def test_examples(self):
        self.assertEqual([value(AND, v) for v in ([0, 0], [1, 0], [0, 1], [1, 1])], [0, 0, 0, 1])
        self.assertEqual([value(NOT, [0]), value(NOT, [1])], [1, 0])
        self.assertEqual([value(LOW, []), value(HIGH, [])], [0, 1])

    def test_first_value_has_the_least_weight(self):
        self.assertEqual([value(ONE_NOT_OTHER, v) for v in ([0, 0], [1, 0], [0, 1], [1, 1])], [0, 1, 0, 0])
        for place, values in enumerate([[1, 0, 0, 0], [0, 1, 0, 0], [0, 0, 1, 0], [0, 0, 0, 1]]):
            self.assertEqual([value((4, 2 ** n), values) for n in (1, 2, 4, 8)], [int(k == place) for k in range(4)])

    def test_all_lists_of_values(self):
        for gate in ALL_GATES:
            for values in value_lists(gate[0]):
                self.assert_whole(value(gate, values), gate_value(gate, values))

    def test_what_is_handed_in_stays(self):
        for values in value_lists(4):
            kept = list(values)
            value((4, 27030), values)
            self.assertEqual(values, kept)


class InputTable(TestCase):
    def test_each(self):
        told = [[input_table(n, j) for j in range(n)] for n in range(5)]
        self.assertEqual(told, [[], [2], [10, 12], [170, 204, 240], [43690, 52428, 61680, 65280]])

    def test_row_by_row(self):
        for n in range(5):
            for j in range(n):
                table = input_table(n, j)
                self.assert_whole(table, sum(2 ** row for row in range(2 ** n) if row // 2 ** j % 2 == 1))


class Put(TestCase):
    def assert_row_by_row(self, gate, tables, inputs):
        kept = list(tables)
        table = put(gate, tables, inputs)
        rows = [gate_value(gate, [t // 2 ** row % 2 for t in kept]) for row in range(2 ** inputs)]
        self.assert_whole(table, number(rows))
        self.assertEqual(tables, kept)

    def test_examples(self):
        self.assertEqual(put(AND, [10, 12], 2), 8)
        self.assertEqual(put(OR, [10, 12], 2), 14)
        self.assertEqual(put(ONE_NOT_OTHER, [12, 10], 2), 4)
        self.assertEqual(put(NOT, [65280], 4), 255)
        self.assertEqual(put(AND, [1, 1], 0), 1)

    def test_constants(self):
        for inputs in range(5):
            self.assert_whole(put(LOW, [], inputs), 0)
            self.assert_whole(put(HIGH, [], inputs), limit(inputs) - 1)

    def test_one_and_two_inputs_to_all_tables(self):
        for inputs in range(3):
            for one in range(limit(inputs)):
                for gate in some_gates(1):
                    self.assert_row_by_row(gate, [one], inputs)
                for other in range(limit(inputs)):
                    for gate in some_gates(2):
                        self.assert_row_by_row(gate, [one, other], inputs)

    def test_all_sizes(self):
        for size in range(5):
            for inputs in range(5):
                drawn = spread(limit(inputs), 40)
                for k, gate in enumerate(some_gates(size, 60)):
                    tables = [drawn[(k * (3 + 2 * i) + 7 * i) % len(drawn)] for i in range(size)]
                    self.assert_row_by_row(gate, tables, inputs)
                    self.assert_row_by_row(gate, tables[:1] * size, inputs)

    def test_to_its_own_inputs_gives_its_bits(self):
        for gate in ALL_GATES + some_gates(4, 4000):
            tables = [[], [2], [10, 12], [170, 204, 240], [43690, 52428, 61680, 65280]][gate[0]]
            self.assert_whole(put(gate, tables, gate[0]), gate[1])

    def test_what_is_told_stays_when_the_list_is_changed(self):
        tables = [10, 12]
        told = put(XOR, tables, 2)
        tables[0] = 3
        tables.append(5)
        self.assertEqual(told, 6)
        self.assertEqual(put(XOR, [10, 12], 2), 6)


class Turned(TestCase):
    def test_examples(self):
        pairs = [(AND, OR), (OR, AND), (NOT, NOT), ((1, 2), (1, 2)), (LOW, HIGH), (HIGH, LOW), (XOR, (2, 9)),
                 ((1, 0), (1, 3)), (ONE_NOT_OTHER, (2, 11)), ((3, 232), (3, 232)), ((4, 32768), (4, 65534))]
        for gate, other in pairs:
            self.assert_gate(turned(gate), other)

    def test_all_lists_of_values(self):
        for gate in ALL_GATES:
            told = gate_from(gate[0], lambda v: 1 - gate_value(gate, [1 - w for w in v]))
            self.assert_gate(turned(gate), told)

    def test_twice_it_is_the_first(self):
        for gate in ALL_GATES:
            self.assert_gate(turned(turned(gate)), gate)


class WithSet(TestCase):
    def test_examples(self):
        self.assert_gate(with_set(AND, 0, 1), (1, 2))
        self.assert_gate(with_set(AND, 1, 0), (1, 0))
        self.assert_gate(with_set(ONE_NOT_OTHER, 0, 0), (1, 0))
        self.assert_gate(with_set(ONE_NOT_OTHER, 0, 1), (1, 1))
        self.assert_gate(with_set(ONE_NOT_OTHER, 1, 0), (1, 2))
        self.assert_gate(with_set(ONE_NOT_OTHER, 1, 1), (1, 0))
        self.assert_gate(with_set(NOT, 0, 0), HIGH)
        self.assert_gate(with_set(NOT, 0, 1), LOW)

    def test_inputs_behind_move_up(self):
        self.assert_gate(with_set((4, 65280), 0, 1), (3, 240))
        self.assert_gate(with_set((4, 65280), 2, 0), (3, 240))
        self.assert_gate(with_set((4, 65280), 3, 0), (3, 0))
        self.assert_gate(with_set((4, 65280), 3, 1), (3, 255))
        self.assert_gate(with_set((4, 52428), 0, 0), (3, 170))
        self.assert_gate(with_set((4, 52428), 2, 0), (3, 204))

    def test_each_input_and_both_values(self):
        for gate in ALL_GATES:
            for j in range(gate[0]):
                for w in (0, 1):
                    told = gate_from(gate[0] - 1, lambda v: gate_value(gate, v[:j] + [w] + v[j:]))
                    self.assert_gate(with_set(gate, j, w), told)


class Matters(TestCase):
    def test_all(self):
        for gate, told in ((NOT, [0]), (AND, [0, 1]), (XOR, [0, 1]), ((3, 150), [0, 1, 2]), ((3, 232), [0, 1, 2]),
                           ((4, 32768), [0, 1, 2, 3]), ((4, 27030), [0, 1, 2, 3])):
            self.assertEqual(matters(gate), told)

    def test_some(self):
        for gate, told in (((2, 10), [0]), ((2, 12), [1]), ((2, 3), [1]), ((3, 160), [0, 2]), ((3, 192), [1, 2]),
                           ((3, 102), [0, 1]), ((4, 65280), [3]), ((4, 43690), [0]), ((4, 43690 & 61680), [0, 2]),
                           ((4, 52428 ^ 65280), [1, 3])):
            self.assertEqual(matters(gate), told)

    def test_none(self):
        for inputs in range(5):
            self.assertEqual(matters((inputs, 0)), [])
            self.assertEqual(matters((inputs, limit(inputs) - 1)), [])

    def test_each_gate(self):
        for gate in ALL_GATES:
            told = [j for j in range(gate[0]) if any(
                gate_value(gate, v) != gate_value(gate, v[:j] + [1 - v[j]] + v[j + 1:]) for v in value_lists(gate[0]))]
            mattering = matters(gate)
            self.assertIs(type(mattering), list)
            self.assertEqual(mattering, told)

    def test_what_is_told_is_the_askers_own(self):
        for gate, told in ((AND, [0, 1]), ((2, 0), []), ((4, 65280), [3])):
            first = matters(gate)
            second = matters(gate)
            first.append(9)
            first[0] = 7
            self.assertEqual(second, told)
            self.assertEqual(matters(gate), told)


class InOrder(TestCase):
    def assert_in_order(self, gate, order):
        def at_places(v):
            return gate_value(gate, [v[order.index(place)] for place in range(gate[0])])

        kept = list(order)
        self.assert_gate(in_order(gate, order), gate_from(gate[0], at_places))
        self.assertEqual(order, kept)

    def test_examples(self):
        self.assert_gate(in_order(LOW, []), LOW)
        self.assert_gate(in_order(HIGH, []), HIGH)
        self.assert_gate(in_order(NOT, [0]), NOT)
        self.assert_gate(in_order(ONE_NOT_OTHER, [0, 1]), ONE_NOT_OTHER)
        self.assert_gate(in_order(ONE_NOT_OTHER, [1, 0]), (2, 4))

    def test_orders_that_are_not_their_own_reverse(self):
        # The first gate's value is that of its first input, which is v[i] where order[i] is 0.
        self.assert_gate(in_order((3, 170), [1, 2, 0]), (3, 240))
        self.assert_gate(in_order((3, 170), [2, 0, 1]), (3, 204))
        self.assert_gate(in_order((4, 43690), [1, 2, 3, 0]), (4, 65280))
        self.assert_gate(in_order((4, 43690), [3, 0, 1, 2]), (4, 52428))
        self.assert_gate(in_order((4, 52428), [1, 2, 0, 3]), (4, 43690))

    def test_each_order(self):
        for inputs in range(5):
            for order in permutations(range(inputs)):
                for gate in some_gates(inputs, 256 if inputs < 4 else 40):
                    self.assert_in_order(gate, list(order))

    def test_two_orders_one_behind_the_other(self):
        for inputs, gates in ((3, [(3, 170), (3, 2), (3, 202), (3, 178)]), (4, [(4, 43690), (4, 2 ** 9 + 2 ** 3 + 2)])):
            for one in permutations(range(inputs)):
                for other in permutations(range(inputs)):
                    both = [one[place] for place in other]
                    for gate in gates:
                        self.assert_gate(in_order(in_order(gate, list(one)), list(other)), in_order(gate, both))

    def test_an_order_and_its_reverse(self):
        for order in permutations(range(4)):
            back = [order.index(place) for place in range(4)]
            for gate in some_gates(4, 30):
                self.assert_gate(in_order(in_order(gate, list(order)), back), gate)

    def test_what_is_told_stays_when_the_order_is_changed(self):
        order = [1, 2, 0]
        told = in_order((3, 170), order)
        order.reverse()
        self.assertEqual(told, (3, 240))
        self.assertEqual(in_order((3, 170), [1, 2, 0]), (3, 240))


class AskedAgain(TestCase):
    def test_nothing_asked_changes_what_is_told_later(self):
        def ask_all():
            return [[value(gate, [1] * gate[0]), put(gate, [6] * gate[0], 3), turned(gate), matters(gate),
                     in_order(gate, list(range(gate[0]))[::-1]), [with_set(gate, j, 1) for j in range(gate[0])]]
                    for gate in ALL_GATES[::5]]

        first = ask_all()
        kept = repr(first)
        self.assertEqual(ask_all(), first)
        self.assertEqual(repr(first), kept)


if __name__ == "__main__":
    unittest.main()
