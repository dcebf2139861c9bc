import random
import unittest
from itertools import product

from gatekin.circuits import gate_of, is_circuit
from gatekin.errors import TooBig
from gatekin.gates import is_gate, turned
from gatekin.joins import joined, shared, turned_circuit
from tests.plain import circuit_gate, circuit_rows, drawn_circuit, gate_from, gate_value, long_circuit, number, some_gates

AND, OR, XOR, NAND, NOT = (2, 8), (2, 14), (2, 6), (2, 7), (1, 1)
LOW, HIGH = (0, 0), (0, 1)

XOR_OF_NANDS = (2, ((NAND, (0, 1)), (NAND, (0, 2)), (NAND, (2, 1)), (NAND, (3, 4))), 5)


def by_shifts(circuit, parts):
    """Joined, each wire reckoned by how far its steps are moved."""
    inputs = parts[0][0]
    steps, outs = [], []
    for part in parts:
        moved = len(steps)
        outs.append(part[2] + (moved if part[2] >= inputs else 0))
        steps += [(gate, tuple(end + (moved if end >= inputs else 0) for end in ends)) for gate, ends in part[1]]

    moved = inputs + len(steps) - circuit[0]

    def wire(end):
        return outs[end] if end < circuit[0] else end + moved

    steps += [(gate, tuple(wire(end) for end in ends)) for gate, ends in circuit[1]]
    return (inputs, tuple(steps), wire(circuit[2]))


def leading(circuit):
    """The steps from which a row of wires leads to out."""
    inputs, steps, out = circuit
    reached, asked = set(), [out]
    while asked:
        wire = asked.pop()
        if wire >= inputs and wire not in reached:
            reached.add(wire)
            asked += steps[wire - inputs][1]
    return [s for s in range(len(steps)) if inputs + s in reached]


def by_words(circuit):
    """Shared, one step left out at a time and all behind it named anew."""
    inputs, steps, out = circuit
    steps = list(steps)
    s = 0
    while s < len(steps):
        ahead = [k for k in range(s) if steps[k] == steps[s]]
        if ahead:
            steps, out = without(steps, out, inputs, s, inputs + ahead[0])
        else:
            s += 1
    while len(leading((inputs, steps, out))) < len(steps):
        unused = max(set(range(len(steps))) - set(leading((inputs, steps, out))))
        steps, out = without(steps, out, inputs, unused, None)
    return (inputs, tuple(steps), out)


def without(steps, out, inputs, s, instead):
    def wire(end):
        return instead if end == inputs + s else end - (end > inputs + s)

    return [(gate, tuple(wire(end) for end in ends)) for gate, ends in steps[:s] + steps[s + 1:]], wire(out)


class TestCase(unittest.TestCase):
    def assert_circuit(self, told, expected):
        self.assertIs(is_circuit(told), True)
        self.assertIs(type(told), tuple)
        self.assertEqual(told, expected)


class Joined(TestCase):
    def assert_joined(self, circuit, parts):
        kept = repr((circuit, parts))
        told = joined(circuit, parts)
        self.assert_circuit(told, by_shifts(circuit, parts))
        self.assertEqual(repr((circuit, parts)), kept)
        self.assertEqual([gate for gate, ends in told[1]],
                         [gate for part in parts + [circuit] for gate, ends in part[1]])
        values = [gate_of(part)[1] for part in parts]
        own = gate_of(circuit)
        rows = [gate_value(own, [value // 2 ** row % 2 for value in values]) for row in range(2 ** parts[0][0])]
        self.assertEqual(circuit_gate(told), (parts[0][0], number(rows)))

    def test_examples(self):
        told = joined((2, ((AND, (0, 1)),), 2), [(1, ((NOT, (0,)),), 1), (1, ((HIGH, ()), (XOR, (0, 1))), 2)])
        self.assert_circuit(told, (1, ((NOT, (0,)), (HIGH, ()), (XOR, (0, 2)), (AND, (1, 3))), 4))
        told = joined((1, ((NOT, (0,)), (NOT, (1,))), 1), [XOR_OF_NANDS])
        self.assert_circuit(told, (2, XOR_OF_NANDS[1] + ((NOT, (5,)), (NOT, (6,))), 6))

    def test_parts_without_steps(self):
        told = joined(XOR_OF_NANDS, [(3, (), 2), (3, (), 0)])
        self.assert_circuit(told, (3, ((NAND, (2, 0)), (NAND, (2, 3)), (NAND, (3, 0)), (NAND, (4, 5))), 6))
        self.assert_circuit(joined((2, (), 1), [(4, (), 3), (4, (), 2)]), (4, (), 2))
        self.assert_joined(XOR_OF_NANDS, [(1, (), 0), (1, (), 0)])

    def test_a_circuit_without_steps_keeps_all_parts_steps(self):
        told = joined((2, (), 1), [(1, ((NOT, (0,)),), 1), (1, ((HIGH, ()),), 0)])
        self.assert_circuit(told, (1, ((NOT, (0,)), (HIGH, ())), 0))
        told = joined((2, (), 0), [(1, ((NOT, (0,)),), 1), (1, ((HIGH, ()),), 0)])
        self.assert_circuit(told, (1, ((NOT, (0,)), (HIGH, ())), 1))

    def test_parts_alike_are_laid_down_each(self):
        part = (2, ((AND, (0, 1)),), 2)
        told = joined((2, ((XOR, (0, 1)),), 2), [part, part])
        self.assert_circuit(told, (2, ((AND, (0, 1)), (AND, (0, 1)), (XOR, (2, 3))), 4))
        self.assert_joined((4, (((4, 27030), (3, 0, 1, 2)),), 4), [XOR_OF_NANDS, part, part, XOR_OF_NANDS])

    def test_parts_whose_out_is_an_input_or_a_step_within(self):
        part = (2, ((AND, (0, 1)), (OR, (0, 2))), 0)
        self.assert_joined(XOR_OF_NANDS, [part, part[:2] + (1,)])
        self.assert_joined(XOR_OF_NANDS, [part[:2] + (2,), part[:2] + (3,)])

    def test_parts_without_inputs(self):
        told = joined(XOR_OF_NANDS, [(0, ((HIGH, ()), (NOT, (0,))), 1), (0, ((LOW, ()),), 0)])
        self.assert_circuit(told, (0, ((HIGH, ()), (NOT, (0,)), (LOW, ()), (NAND, (1, 2)), (NAND, (1, 3)),
                                       (NAND, (3, 2)), (NAND, (4, 5))), 6))

    def test_all_counts_of_inputs(self):
        draw = random.Random(8)
        for own, inputs in product(range(1, 5), range(5)):
            for size in (1, 2, 3, 9, 40):
                parts = [drawn_circuit(draw, inputs, draw.randrange(1 if inputs == 0 else 0, size + 1))
                         for j in range(own)]
                self.assert_joined(drawn_circuit(draw, own, draw.randrange(size)), parts)
                self.assert_joined(drawn_circuit(draw, own, size), parts[:1] * own)
                self.assert_joined(drawn_circuit(draw, own, size), (parts[:2] * own)[:own])

    def test_each_out(self):
        draw = random.Random(9)
        for inputs in range(1, 4):
            circuit = drawn_circuit(draw, 3, 6)
            for out in range(9):
                parts = [drawn_circuit(draw, inputs, 4) for j in range(3)]
                self.assert_joined(circuit[:2] + (out,), parts)

    def test_a_circuit_without_inputs_stays(self):
        draw = random.Random(10)
        for circuit in [(0, ((HIGH, ()),), 0), (0, ((HIGH, ()), (NOT, (0,)), (LOW, ())), 1), long_circuit(0, 600)]:
            self.assert_circuit(joined(circuit, []), circuit)
        for count in range(1, 40):
            circuit = drawn_circuit(draw, 0, count)
            self.assert_circuit(joined(circuit, []), circuit)

    def test_600_steps_are_told(self):
        for own, counts in ((600, [0]), (0, [600]), (300, [300]), (1, [300, 299]), (200, [100, 100, 200]),
                            (120, [120] * 4), (0, [150] * 4), (596, [1] * 4), (597, [0, 3, 0, 0])):
            for inputs in (1, 2, 4):
                parts = [long_circuit(inputs, count) if count else (inputs, (), 0) for count in counts]
                circuit = long_circuit(len(parts), own) if own else (len(parts), (), 0)
                self.assertEqual(len(joined(circuit, parts)[1]), 600)
                self.assert_joined(circuit, parts)

    def test_601_steps_are_refused(self):
        for own, counts in ((600, [1]), (1, [600]), (301, [300]), (1, [300, 300]), (200, [101, 100, 200]),
                            (121, [120] * 4), (0, [150, 150, 150, 151]), (597, [1] * 4), (600, [0, 0, 0, 1]),
                            (600, [600] * 4)):
            for inputs in (1, 2, 4):
                parts = [long_circuit(inputs, count) if count else (inputs, (), 0) for count in counts]
                circuit = long_circuit(len(parts), own) if own else (len(parts), (), 0)
                kept = repr((circuit, parts))
                self.assertRaises(TooBig, joined, circuit, parts)
                self.assertEqual(repr((circuit, parts)), kept)

    def test_refused_ahead_of_the_work(self):
        class Unread(tuple):
            """Steps that may be counted, and not gone through."""
            def __iter__(self):
                raise AssertionError("gone through")

            def __getitem__(self, place):
                raise AssertionError("gone through")

        part = (1, Unread([(NOT, (0,))] * 300), 1)
        circuit = (2, Unread([(AND, (0, 1))]), 2)
        self.assertRaises(TooBig, joined, circuit, [part, part])

    def test_what_is_told_is_the_askers_own(self):
        parts = [(1, ((NOT, (0,)),), 1), (1, (), 0)]
        told = joined(XOR_OF_NANDS, parts)
        kept = by_shifts(XOR_OF_NANDS, parts)
        again = list(parts)
        parts.reverse()
        parts.append(XOR_OF_NANDS)
        self.assertEqual(told, kept)
        self.assertEqual(joined(XOR_OF_NANDS, again), kept)


class Shared(TestCase):
    def assert_shared(self, circuit, expected=None):
        told = shared(circuit)
        self.assert_circuit(told, by_words(circuit) if expected is None else expected)
        self.assertEqual(circuit_gate(told), circuit_gate(circuit))
        self.assertEqual(len(set(told[1])), len(told[1]))
        self.assertEqual(leading(told), list(range(len(told[1]))))
        self.assert_circuit(shared(told), told)

    def test_alike_at_once(self):
        self.assert_shared((2, ((AND, (0, 1)), (AND, (0, 1)), (OR, (2, 3))), 4), (2, ((AND, (0, 1)), (OR, (2, 2))), 3))
        self.assert_shared((0, ((HIGH, ()), (HIGH, ()), (AND, (0, 1))), 2), (0, ((HIGH, ()), (AND, (0, 0))), 1))
        self.assert_shared((2, ((AND, (0, 1)),) * 600, 601), (2, ((AND, (0, 1)),), 2))

    def test_alike_when_their_wires_are_named_anew(self):
        steps = ((NOT, (0,)), (NOT, (0,)), (NOT, (1,)), (NOT, (2,)), (AND, (3, 4)))
        self.assert_shared((1, steps, 5), (1, ((NOT, (0,)), (NOT, (1,)), (AND, (2, 2))), 3))
        steps = ((HIGH, ()), (LOW, ()), (HIGH, ()), (OR, (2, 3)), (OR, (4, 3)), (NOT, (5,)), (NOT, (6,)), (XOR, (8, 7)))
        self.assert_shared((2, steps, 9), (2, ((HIGH, ()), (LOW, ()), (OR, (2, 3)), (NOT, (4,)), (XOR, (5, 5))), 6))

    def test_wires_that_are_alike_only_ahead_of_the_naming_part_no_steps(self):
        steps = ((NOT, (0,)), (NOT, (0,)), (LOW, ()), (NOT, (2,)), (NOT, (3,)), (AND, (4, 5)))
        self.assert_shared((1, steps, 6), (1, ((NOT, (0,)), (LOW, ()), (NOT, (1,)), (NOT, (2,)), (AND, (3, 4))), 5))

    def test_the_first_one_stays_for_all(self):
        self.assert_shared((2, ((AND, (0, 1)), (OR, (0, 1)), (AND, (0, 1))), 4), (2, ((AND, (0, 1)),), 2))
        steps = ((AND, (0, 1)), (OR, (0, 1)), (AND, (0, 1)), (XOR, (3, 4)), (AND, (0, 1)), (XOR, (5, 6)))
        self.assert_shared((2, steps, 7), (2, ((AND, (0, 1)), (OR, (0, 1)), (XOR, (3, 2)), (XOR, (4, 2))), 5))

    def test_steps_that_are_not_alike_stay(self):
        steps = ((AND, (0, 1)), (AND, (1, 0)), (OR, (2, 3)))
        self.assert_shared((2, steps, 4), (2, steps, 4))
        steps = ((NOT, (0,)), ((2, 1), (0, 0)), ((3, 1), (0, 0, 0)), ((4, 1), (0, 0, 0, 0)), ((4, 6), (1, 2, 3, 4)))
        self.assert_shared((1, steps, 5), (1, steps, 5))
        steps = ((HIGH, ()), ((1, 3), (0,)), ((2, 15), (0, 0)), ((3, 7), (1, 2, 3)))
        self.assert_shared((1, steps, 4), (1, steps, 4))

    def test_unused(self):
        steps = ((AND, (0, 1)), (OR, (0, 1)), (NOT, (2,)))
        self.assert_shared((2, steps, 4), (2, ((AND, (0, 1)), (NOT, (2,))), 3))
        self.assert_shared((2, steps, 3), (2, ((OR, (0, 1)),), 2))
        self.assert_shared((2, steps, 2), (2, ((AND, (0, 1)),), 2))

    def test_unused_in_a_row(self):
        steps = ((AND, (0, 1)), (NOT, (2,)), (NOT, (3,)), (NOT, (4,)), (OR, (2, 1)))
        self.assert_shared((2, steps, 6), (2, ((AND, (0, 1)), (OR, (2, 1))), 3))
        self.assert_shared(long_circuit(3, 600)[:2] + (20,))

    def test_all_used(self):
        self.assert_shared(XOR_OF_NANDS, XOR_OF_NANDS)
        for count in (1, 2, 300, 600):
            row = (1, tuple((NOT, (s,)) for s in range(count)), count)
            self.assert_shared(row, row)

    def test_none_left(self):
        for inputs in range(1, 5):
            for out in range(inputs):
                self.assert_shared((inputs, (), out), (inputs, (), out))
                self.assert_shared((inputs, ((HIGH, ()), (AND, (0, inputs)), (NOT, (inputs + 1,))), out), (inputs, (), out))

    def test_drawn_ones(self):
        draw = random.Random(11)
        few = [[NOT], [AND], [HIGH, NOT], [LOW, HIGH, OR], [NAND, NOT], [(3, 202), NOT], [(4, 27030), LOW, AND], None]
        for inputs in range(5):
            for gates in few:
                for count in (1, 2, 3, 5, 8, 13, 30):
                    for near in (None, 3):
                        self.assert_shared(drawn_circuit(draw, inputs, count, gates, near))

    def test_long_ones(self):
        draw = random.Random(12)
        for inputs in (0, 1, 4):
            self.assert_shared(long_circuit(inputs, 600))
            self.assert_shared(drawn_circuit(draw, inputs, 300, [NOT, AND, HIGH], 4))

    def test_each_step_used_twice_by_the_one_behind(self):
        steps = tuple((AND, (s, s)) for s in range(600))
        self.assertEqual(shared((1, steps, 600)), (1, steps, 600))


class TurnedCircuit(TestCase):
    def assert_turned(self, circuit):
        told = turned_circuit(circuit)
        self.assert_circuit(told, (circuit[0], tuple((turned(gate), ends) for gate, ends in circuit[1]), circuit[2]))
        self.assertEqual(circuit_gate(told), turned(circuit_gate(circuit)))
        own = circuit_gate(circuit)
        self.assertEqual(gate_of(told), gate_from(own[0], lambda v: 1 - gate_value(own, [1 - w for w in v])))
        self.assert_circuit(turned_circuit(told), circuit)

    def test_examples(self):
        self.assert_circuit(turned_circuit((2, ((AND, (0, 1)), (NOT, (2,))), 3)), (2, ((OR, (0, 1)), (NOT, (2,))), 3))
        self.assert_circuit(turned_circuit(XOR_OF_NANDS),
                            (2, (((2, 1), (0, 1)), ((2, 1), (0, 2)), ((2, 1), (2, 1)), ((2, 1), (3, 4))), 5))
        self.assertEqual(gate_of(turned_circuit(XOR_OF_NANDS)), (2, 9))
        self.assert_circuit(turned_circuit((0, ((HIGH, ()), (LOW, ())), 0)), (0, ((LOW, ()), (HIGH, ())), 0))

    def test_without_steps(self):
        for inputs in range(1, 5):
            for out in range(inputs):
                self.assert_circuit(turned_circuit((inputs, (), out)), (inputs, (), out))

    def test_each_gate_as_a_step(self):
        for inputs in range(5):
            for gate in some_gates(inputs, 60):
                self.assertIs(is_gate(gate), True)
                self.assert_turned((4, ((gate, (3, 0, 2, 2)[:inputs]), (NOT, (4,))), 5))

    def test_drawn_ones(self):
        draw = random.Random(13)
        for inputs in range(5):
            for count in (1, 2, 4, 9, 25):
                for again in range(4):
                    self.assert_turned(drawn_circuit(draw, inputs, count))

    def test_600_steps(self):
        for inputs in range(5):
            self.assert_turned(long_circuit(inputs, 600))


class AskedAgain(TestCase):
    def test_nothing_asked_changes_what_is_told_later(self):
        draw = random.Random(14)
        circuits = [drawn_circuit(draw, 2, count) for count in range(1, 30)]

        def ask_all():
            return [[joined(circuit, [circuits[0], circuit]), shared(circuit), turned_circuit(circuit),
                     circuit_rows(circuit)] for circuit in circuits]

        kept = repr(circuits)
        first = ask_all()
        told = repr(first)
        self.assertEqual(ask_all(), first)
        self.assertEqual(repr(first), told)
        self.assertEqual(repr(circuits), kept)


if __name__ == "__main__":
    unittest.main()
