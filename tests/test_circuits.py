import unittest

from gatekin.circuits import gate_of, is_circuit, wires
from gatekin.gates import is_gate
from tests.plain import GREAT, circuit_rows, limit, long_circuit, some_gates

AND, OR, NAND, NOT = (2, 8), (2, 14), (2, 7), (1, 1)
LOW, HIGH = (0, 0), (0, 1)

XOR_OF_NANDS = (2, ((NAND, (0, 1)), (NAND, (0, 2)), (NAND, (2, 1)), (NAND, (3, 4))), 5)
MIXED = (
    3,
    (
        (HIGH, ()),
        (NOT, (0,)),
        ((3, 202), (4, 1, 2)),
        ((4, 27030), (0, 3, 5, 1)),
        (OR, (6, 2)),
    ),
    7,
)

GOOD = [
    (1, (), 0), (2, (), 0), (2, (), 1), (3, (), 2), (4, (), 0), (4, (), 3),
    (0, ((LOW, ()),), 0), (0, ((HIGH, ()), (NOT, (0,)), (AND, (0, 1))), 2), (0, ((HIGH, ()), (NOT, (0,))), 0),
    (1, ((NOT, (0,)),), 1), (1, ((NOT, (0,)),), 0),
    (1, ((AND, (0, 0)),), 1), (1, (((4, 27030), (0, 0, 0, 0)),), 1), (2, (((3, 202), (1, 0, 1)), (AND, (2, 2))), 3),
    (2, ((AND, (0, 1)), (AND, (0, 1)), (OR, (2, 3))), 4),
    (4, (((4, 32769), (3, 1, 2, 0)),), 4), (4, ((HIGH, ()), (LOW, ()), (AND, (4, 5))), 6),
    XOR_OF_NANDS, MIXED,
]


def chain(inputs, count, first=(HIGH, ())):
    """A circuit of so many steps, each exchanging what the one ahead gives."""
    steps = [first] + [(NOT, (inputs + s,)) for s in range(count - 1)]
    return (inputs, tuple(steps), inputs + count - 1)


def places(thing, path=()):
    """The paths to the thing and to all parts of it, at every depth."""
    told = [path]
    if isinstance(thing, tuple):
        for k, part in enumerate(thing):
            told += places(part, path + (k,))
    return told


def at(thing, path):
    for k in path:
        thing = thing[k]
    return thing


def with_part(thing, path, part):
    if not path:
        return part
    inner = with_part(thing[path[0]], path[1:], part)
    return thing[:path[0]] + (inner,) + thing[path[0] + 1:]


class IsCircuit(unittest.TestCase):
    def assert_good(self, *things):
        for thing in things:
            with self.subTest(thing=repr(thing)[:90]):
                self.assertIs(is_circuit(thing), True)

    def assert_none(self, *things):
        for thing in things:
            with self.subTest(thing=repr(thing)[:90]):
                self.assertIs(is_circuit(thing), False)

    def test_good_ones(self):
        self.assert_good(*GOOD)

    def test_each_gate_as_a_step(self):
        for inputs in range(5):
            for gate in some_gates(inputs, 60):
                self.assertIs(is_circuit((4, ((gate, (3, 0, 2, 2)[:inputs]),), 4)), True)

    def test_count_of_steps(self):
        for inputs in range(5):
            for count in (1, 2, 299, 300, 301, 599, 600):
                self.assert_good(chain(inputs, count), long_circuit(inputs, count))
            for count in (601, 602, 1000):
                self.assert_none(chain(inputs, count), long_circuit(inputs, count))
                self.assert_none(chain(inputs, count)[:2] + (0,))
        self.assert_good((2, ((AND, (0, 1)),) * 600, 601))
        self.assert_none((2, ((AND, (0, 1)),) * 601, 601))

    def test_a_fault_in_the_last_of_many_steps(self):
        good = long_circuit(3, 600)
        for last in ((NOT, (602,)), (NOT, (-1,)), ((1, 4), (0,)), (NOT, [0]), [NOT, (0,)], (NOT, (True,)), None):
            self.assert_none((3, good[1][:599] + (last,), 602))
        self.assert_good((3, good[1][:599] + ((NOT, (601,)),), 602))

    def test_other_kinds_at_every_place(self):
        others = [None, True, False, "", "0", [], {}, 0.0, 1.0, {0}, b"0", object(), float("nan"), ...]
        for circuit in GOOD + [long_circuit(4, 12)]:
            for path in places(circuit):
                self.assert_none(*[with_part(circuit, path, other) for other in others])

    def test_lists_texts_and_dicts_for_tuples_at_every_place(self):
        for circuit in GOOD:
            for path in places(circuit):
                part = at(circuit, path)
                if isinstance(part, tuple):
                    for other in (list(part), repr(part), dict(enumerate(part)), iter(part)):
                        self.assert_none(with_part(circuit, path, other))

    def test_likenesses_for_numbers_at_every_place(self):
        for circuit in GOOD:
            for path in places(circuit):
                part = at(circuit, path)
                if isinstance(part, int):
                    for other in (float(part), str(part), (part,), [part], complex(part), ()):
                        self.assert_none(with_part(circuit, path, other))
                    if part in (0, 1):
                        self.assert_none(with_part(circuit, path, bool(part)))

    def test_numbers_out_of_bounds_at_every_place(self):
        for circuit in GOOD:
            for path in places(circuit):
                if isinstance(at(circuit, path), int):
                    for other in (-1, -2, -GREAT, 65536, GREAT, 10 ** 400):
                        self.assert_none(with_part(circuit, path, other))

    def test_numbers_for_tuples(self):
        for circuit in GOOD:
            for path in places(circuit):
                if isinstance(at(circuit, path), tuple):
                    for other in (0, 1, 2, -1, GREAT):
                        self.assert_none(with_part(circuit, path, other))

    def test_a_part_more_or_less(self):
        for circuit in GOOD:
            for path in places(circuit):
                part = at(circuit, path)
                if isinstance(part, tuple):
                    self.assert_none(with_part(circuit, path, part + (0,)))
                    self.assert_none(with_part(circuit, path, (0,) + part))
                    self.assert_none(with_part(circuit, path, (part,)))
                    # A circuit whose last step isn't its out may lose it and stay one.
                    if part and path != (1,):
                        self.assert_none(with_part(circuit, path, part[:-1]))
        self.assert_none((2, ()), (), (2,), (2, (), 0, 0), (2, (), 0, None), (2, 0, ()), ((), 2, 0))
        self.assert_none((2, ((AND,),), 2), (2, (((0, 1),),), 2), (2, ((AND, (0, 1), ()),), 2), (2, ((),), 2))

    def test_steps_left_out(self):
        self.assert_good((2, XOR_OF_NANDS[1][:3], 4), (2, XOR_OF_NANDS[1][:1], 2))
        self.assert_none((2, XOR_OF_NANDS[1][:3], 5), (2, XOR_OF_NANDS[1][1:], 4), (2, XOR_OF_NANDS[1][1:], 0))

    def test_a_wire_that_is_not_there_yet(self):
        for inputs in range(1, 5):
            for ahead in (inputs, inputs + 1, inputs + 2, 700, GREAT):
                self.assert_none((inputs, ((NOT, (ahead,)), (LOW, ()), (LOW, ())), 0))
                self.assert_none((inputs, ((AND, (0, ahead)), (LOW, ())), 0))
                self.assert_none((inputs, ((AND, (ahead, 0)), (LOW, ())), 0))
            self.assert_good((inputs, ((NOT, (inputs - 1,)), (NOT, (inputs,)), (NOT, (inputs + 1,))), 0))
            self.assert_none((inputs, ((LOW, ()), (NOT, (inputs + 1,)), (LOW, ())), 0))
            self.assert_none((inputs, ((LOW, ()), (LOW, ()), (NOT, (inputs + 2,))), 0))
        self.assert_none((0, ((NOT, (0,)),), 0), (0, ((LOW, ()), (NOT, (1,))), 0))
        self.assert_good((0, ((LOW, ()), (NOT, (0,))), 0))

    def test_a_wire_below_0(self):
        for below in (-1, -2, -3, -GREAT):
            self.assert_none((2, ((NOT, (below,)),), 2), (2, ((AND, (0, below)),), 2), (2, ((AND, (below, 1)),), 2))
            self.assert_none((2, ((AND, (0, 1)), (NOT, (below,))), 3))

    def test_a_gate_that_is_none(self):
        for gate in ((2, 16), (2, -1), (5, 0), (-1, 0), (2, GREAT), (GREAT, 0), (2, True), (True, 1), (2,), (2, 8, 0),
                     [2, 8], "2:0001", None, 2, 8, (2, 8.0), (2.0, 8), ((2, 8),)):
            for ends in ((0, 1), (0,), (), (0, 1, 0, 1, 0)):
                self.assert_none((2, ((gate, ends),), 2))

    def test_too_many_or_too_few_wires(self):
        for inputs in range(5):
            for count in range(7):
                circuit = (2, (((inputs, 1), (0, 1, 1, 0, 1, 0)[:count]),), 2)
                self.assertIs(is_circuit(circuit), count == inputs)

    def test_inputs_out_of_bounds(self):
        for inputs in (-1, -2, -GREAT, 5, 6, 100, GREAT, 10 ** 400):
            self.assert_none((inputs, (), 0), (inputs, ((HIGH, ()),), 0), (inputs, ((HIGH, ()),), inputs))

    def test_an_out_that_is_no_wire(self):
        for inputs in range(5):
            for count in range(4):
                steps = ((HIGH, ()),) * count
                for out in range(-3, 10):
                    self.assertIs(is_circuit((inputs, steps, out)), 0 <= out < inputs + count)
                self.assert_none((inputs, steps, GREAT), (inputs, steps, -GREAT))
        self.assert_none((0, (), 0), chain(4, 600)[:2] + (604,))

    def test_things_of_other_kinds(self):
        self.assert_none(None, True, False, 0, 1, GREAT, 1.5, "", "2; > 0", "abc", [], {}, set(), b"123", object(), int,
                         is_circuit, range(3), iter(()), ..., {0: 1, 1: (), 2: 0}, [2, (), 0], (None, None, None),
                         ((), (), ()), AND, (AND, (0, 1)))

    def test_things_that_hold_themselves_or_lie_deep(self):
        around = []
        around.append(around)
        deep = ()
        for k in range(100000):
            deep = (deep,)
        things = [around, (2, around, 0), (2, (around,), 0), (2, ((AND, around),), 0), deep, (2, deep, 0)]
        self.assertEqual([is_circuit(thing) for thing in things], [False] * 6)
        # Unwound by hand, so that no deep row of ends is left to Python.
        things.clear()
        while deep:
            deep = deep[0]


class Wires(unittest.TestCase):
    def assert_row_by_row(self, circuit):
        tables = wires(circuit)
        self.assertIs(type(tables), list)
        self.assertEqual({type(table) for table in tables}, {int})
        rows = circuit_rows(circuit)
        self.assertEqual(tables, [sum(v << r for r, v in enumerate(told)) for told in zip(*rows)])
        self.assertEqual(len(tables), circuit[0] + len(circuit[1]))
        told = gate_of(circuit)
        self.assertIs(type(told), tuple)
        self.assertIs(is_gate(told), True)
        self.assertEqual(told, (circuit[0], tables[circuit[2]]))

    def test_examples(self):
        self.assertEqual(wires(XOR_OF_NANDS), [10, 12, 7, 13, 11, 6])
        self.assertEqual(gate_of(XOR_OF_NANDS), (2, 6))
        self.assertEqual(wires((2, ((AND, (0, 1)), (NOT, (2,))), 3)), [10, 12, 8, 7])
        self.assertEqual(gate_of((2, ((AND, (0, 1)), (NOT, (2,))), 3)), (2, 7))
        self.assertEqual(gate_of((2, ((AND, (0, 1)), (NOT, (2,))), 2)), (2, 8))
        self.assertEqual(wires((0, ((HIGH, ()), (NOT, (0,))), 0)), [1, 0])
        self.assertEqual(gate_of((0, ((HIGH, ()), (NOT, (0,))), 0)), (0, 1))

    def test_without_steps(self):
        self.assertEqual(wires((1, (), 0)), [2])
        self.assertEqual(wires((4, (), 3)), [43690, 52428, 61680, 65280])
        self.assertEqual([gate_of((3, (), out)) for out in range(3)], [(3, 170), (3, 204), (3, 240)])

    def test_constants_over_inputs(self):
        for inputs in range(5):
            circuit = (inputs, ((LOW, ()), (HIGH, ())), inputs)
            self.assertEqual(wires(circuit)[inputs:], [0, limit(inputs) - 1])

    def test_order_of_wires_counts(self):
        self.assertEqual(gate_of((2, (((2, 2), (0, 1)),), 2)), (2, 2))
        self.assertEqual(gate_of((2, (((2, 2), (1, 0)),), 2)), (2, 4))
        self.assertEqual(gate_of((2, (((2, 2), (1, 1)),), 2)), (2, 0))

    def test_good_ones(self):
        for circuit in GOOD:
            self.assert_row_by_row(circuit)

    def test_each_out(self):
        for circuit in (MIXED, long_circuit(4, 30)):
            for out in range(circuit[0] + len(circuit[1])):
                self.assert_row_by_row(circuit[:2] + (out,))

    def test_each_gate_as_a_step(self):
        for inputs in range(5):
            for gate in some_gates(inputs, 100):
                self.assert_row_by_row((4, ((gate, (3, 0, 2, 2)[:inputs]), (NOT, (4,))), 5))

    def test_many_steps(self):
        for inputs in range(5):
            for count in (300, 301, 599, 600):
                self.assert_row_by_row(long_circuit(inputs, count))
                self.assert_row_by_row(chain(inputs, count))

    def test_steps_that_are_each_used_twice(self):
        steps = tuple(((2, 9 if s % 3 else 7), (s, s)) for s in range(600))
        self.assert_row_by_row((1, steps, 600))
        steps = tuple(((2, 6 if s % 3 else 13), (s + 1, s)) for s in range(600))
        self.assert_row_by_row((2, steps, 601))

    def test_what_is_told_is_the_askers_own(self):
        for circuit in GOOD + [long_circuit(4, 300)]:
            told = wires(circuit)
            kept = list(told)
            other = wires(circuit)
            told[0] = -1
            told.append(-1)
            self.assertEqual(other, kept)
            self.assertEqual(wires(circuit), kept)
            told.clear()
            self.assertEqual(wires(circuit), kept)
            self.assertEqual(gate_of(circuit), (circuit[0], kept[circuit[2]]))

    def test_what_is_asked_later_changes_nothing(self):
        first = wires(MIXED)
        kept = list(first)
        for circuit in GOOD:
            wires(circuit)
            gate_of(circuit)
        self.assertEqual(first, kept)


if __name__ == "__main__":
    unittest.main()
