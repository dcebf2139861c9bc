import random
import unittest

from gatekin.circuits import gate_of, is_circuit
from gatekin.errors import TooBig
from gatekin.gates import input_table
from gatekin.trees import spread, tree_circuit, tree_size, tree_table
from tests.plain import circuit_gate, drawn_circuit, drawn_gate, limit, long_circuit, some_gates, tree_gate

AND, OR, XOR, NAND, NOT = (2, 8), (2, 14), (2, 6), (2, 7), (1, 1)
LOW, HIGH = (0, 0), (0, 1)

XOR_OF_NANDS = (2, ((NAND, (0, 1)), (NAND, (0, 2)), (NAND, (2, 1)), (NAND, (3, 4))), 5)
NAND_TREE = (NAND, (0, 1))
XOR_TREE = (NAND, ((NAND, (0, NAND_TREE)), (NAND, (NAND_TREE, 1))))


def row_of(gate, deep, end, place=0):
    """A tree so many gates deep, each with the next one at one place and an end at the others."""
    tree = end
    for k in range(deep):
        parts = [end] * gate[0]
        parts[place] = tree
        tree = (gate, tuple(parts))
    return tree


def full_tree(gate, deep, end):
    tree = end
    for k in range(deep):
        tree = (gate, (tree,) * gate[0])
    return tree


def drawn_tree(draw, inputs, size, deep):
    """A tree of just so many gates (over no inputs, of somewhat more), and at most so deep."""
    if size <= 0:
        return draw.randrange(inputs) if inputs else (draw.choice((LOW, HIGH)), ())
    gate = drawn_gate(draw)
    if size > 1 and (gate[0] == 0 or deep < 6):
        gate = (4, gate[1])
    parts, left = [], size - 1
    for j in range(gate[0]):
        others = gate[0] - 1 - j
        share = left // (others + 1) if deep < 6 else draw.randrange(left + 1)
        parts.append(drawn_tree(draw, inputs, share if others else left, deep - 1))
        left -= share
    return (gate, tuple(parts))


def size_of(tree):
    return 0 if isinstance(tree, int) else 1 + sum(size_of(part) for part in tree[1])


def steps_of(tree):
    """The gates in the order of a tree's circuit."""
    return [] if isinstance(tree, int) else [gate for part in tree[1] for gate in steps_of(part)] + [tree[0]]


def some_trees():
    draw = random.Random(15)
    trees = [(tree, inputs) for inputs in range(1, 5) for tree in range(inputs)]
    for inputs in range(5):
        for size in (1, 2, 3, 5, 9, 20, 60, 150, 299, 300):
            size = size if inputs else size // 4
            trees += [(drawn_tree(draw, inputs, size, 60), inputs) for again in range(4)]
    trees += [(XOR_TREE, 2), (row_of(NAND, 60, 0), 1), (row_of(AND, 60, 1, 1), 2), (row_of((4, 27030), 60, 2, 3), 3),
              (full_tree(NAND, 8, 0), 1), (full_tree((4, 27030), 4, 1), 2), (full_tree((3, 23), 5, 3), 4),
              (row_of(NOT, 59, (HIGH, ())), 0), (row_of(NOT, 45, full_tree(NAND, 8, 0)), 1)]
    return trees


TREES = some_trees()


class TestCase(unittest.TestCase):
    def assert_circuit(self, told, expected):
        self.assertIs(is_circuit(told), True)
        self.assertIs(type(told), tuple)
        self.assertEqual(told, expected)

    def assert_whole(self, told, expected):
        self.assertIs(type(told), int)
        self.assertEqual(told, expected)


class TreeTable(TestCase):
    def test_examples(self):
        self.assert_whole(tree_table(XOR_TREE, 2), 6)
        self.assert_whole(tree_table((AND, (0, (NOT, (1,)))), 2), 2)
        self.assert_whole(tree_table((AND, ((NOT, (0,)), 1)), 2), 4)
        self.assert_whole(tree_table((AND, (0, 1)), 3), 136)
        self.assert_whole(tree_table(((3, 202), (2, 0, 1)), 4), tree_gate(((3, 202), (2, 0, 1)), 4)[1])

    def test_an_inputs_number_alone(self):
        for inputs in range(1, 5):
            for j in range(inputs):
                self.assert_whole(tree_table(j, inputs), input_table(inputs, j))

    def test_constants(self):
        for inputs in range(5):
            self.assert_whole(tree_table((LOW, ()), inputs), 0)
            self.assert_whole(tree_table((HIGH, ()), inputs), limit(inputs) - 1)
            self.assert_whole(tree_table((NOT, ((HIGH, ()),)), inputs), 0)

    def test_each_gate(self):
        for inputs in range(5):
            for gate in some_gates(inputs, 100):
                for over in range(inputs, 5):
                    tree = (gate, tuple(range(over))[::-1][:inputs])
                    self.assert_whole(tree_table(tree, over), tree_gate(tree, over)[1])

    def test_many(self):
        for tree, inputs in TREES:
            self.assert_whole(tree_table(tree, inputs), tree_gate(tree, inputs)[1])


class TreeSize(TestCase):
    def test_examples(self):
        self.assert_whole(tree_size(XOR_TREE), 5)
        self.assert_whole(tree_size((AND, (0, (NOT, (1,))))), 2)
        self.assert_whole(tree_size((HIGH, ())), 1)
        self.assert_whole(tree_size((NOT, ((HIGH, ()),))), 2)

    def test_an_inputs_number_alone(self):
        for j in range(4):
            self.assert_whole(tree_size(j), 0)

    def test_each_count_of_inputs(self):
        for inputs in range(5):
            for bits in (0, limit(inputs) - 1):
                self.assert_whole(tree_size(((inputs, bits), (0,) * inputs)), 1)
                self.assert_whole(tree_size(((inputs, bits), ((LOW, ()),) * inputs)), 1 + inputs)

    def test_deep_and_great_ones(self):
        self.assert_whole(tree_size(row_of(NAND, 60, 0)), 60)
        self.assert_whole(tree_size(row_of((4, 1), 60, 0, 2)), 60)
        self.assert_whole(tree_size(full_tree(NAND, 8, 0)), 255)
        self.assert_whole(tree_size(row_of(NOT, 45, full_tree(NAND, 8, 0))), 300)
        self.assert_whole(tree_size(row_of((4, 1), 59, (NOT, (0,)))), 59 + 3 * 59 + 1)
        self.assert_whole(tree_size(row_of((3, 1), 58, (NOT, ((NOT, (0,)),)))), 58 + 2 * (2 * 58 + 1))
        self.assert_whole(tree_size((AND, (row_of((4, 1), 58, (NOT, (0,)), 3), row_of(NOT, 59, 0)))), 293)

    def test_many(self):
        for tree, inputs in TREES:
            self.assert_whole(tree_size(tree), size_of(tree))


class Spread(TestCase):
    def test_examples(self):
        self.assertEqual(spread(XOR_OF_NANDS), XOR_TREE)
        self.assertEqual(spread((2, ((AND, (0, 1)), (NOT, (2,))), 3)), (NOT, ((AND, (0, 1)),)))
        self.assertEqual(spread((2, ((AND, (1, 0)), (OR, (2, 2))), 3)), (OR, ((AND, (1, 0)), (AND, (1, 0)))))
        self.assertEqual(spread((0, ((HIGH, ()), (NOT, (0,))), 1)), (NOT, ((HIGH, ()),)))

    def test_out_is_an_input(self):
        for inputs in range(1, 5):
            for out in range(inputs):
                for steps in ((), ((HIGH, ()), (NOT, (inputs,))), long_circuit(inputs, 600)[1]):
                    self.assert_whole(spread((inputs, steps, out)), out)

    def test_out_is_a_step_within(self):
        self.assertEqual(spread(XOR_OF_NANDS[:2] + (2,)), NAND_TREE)
        self.assertEqual(spread(XOR_OF_NANDS[:2] + (4,)), (NAND, (NAND_TREE, 1)))

    def test_each_step_stands_as_often_as_it_is_used(self):
        for deep in range(1, 9):
            circuit = (1, tuple((NAND, (s, s)) for s in range(deep)), deep)
            self.assertEqual(spread(circuit), full_tree(NAND, deep, 0))
        for deep in range(1, 5):
            circuit = (2, tuple(((4, 27030), (s + 1,) * 4) for s in range(deep)), deep + 1)
            self.assertEqual(spread(circuit), full_tree((4, 27030), deep, 1))

    def test_kinds(self):
        told = spread(XOR_OF_NANDS)
        self.assertIs(type(told), tuple)
        self.assertIs(type(told[1]), tuple)
        self.assertEqual([type(part) for part in told[1][0][1]], [int, tuple])

    def test_drawn_ones(self):
        draw = random.Random(16)
        told = refused = 0
        for inputs in range(5):
            for count in (1, 2, 3, 5, 8, 13, 40, 90):
                for near in (None, 2, 5):
                    for again in range(4):
                        circuit = drawn_circuit(draw, inputs, count, None, near)
                        sizes = self.sizes(circuit)
                        if sizes[circuit[2]] > 300:
                            self.assertRaises(TooBig, spread, circuit)
                            refused += 1
                        else:
                            tree = spread(circuit)
                            self.assertEqual(size_of(tree), sizes[circuit[2]])
                            self.assertEqual(tree, self.tree_of(circuit, circuit[2]))
                            self.assertEqual(tree_gate(tree, inputs), circuit_gate(circuit))
                            told += 1
        self.assertGreater(told, 100)
        self.assertGreater(refused, 10)

    def sizes(self, circuit):
        sizes = [0] * circuit[0]
        for gate, ends in circuit[1]:
            sizes.append(1 + sum(sizes[end] for end in ends))
        return sizes

    def tree_of(self, circuit, wire):
        if wire < circuit[0]:
            return wire
        gate, ends = circuit[1][wire - circuit[0]]
        return (gate, tuple(self.tree_of(circuit, end) for end in ends))

    def test_300_gates_are_told(self):
        doubled = tuple((NAND, (s, s)) for s in range(8)) + tuple((NOT, (8 + s,)) for s in range(45))
        self.assertEqual(spread((1, doubled, 53)), row_of(NOT, 45, full_tree(NAND, 8, 0)))
        many = ((NAND, (0, 1)),) * 150 + tuple((OR, (151 + k if k else 2, 3 + k)) for k in range(149)) + ((NOT, (300,)),)
        self.assertEqual(spread((2, many, 301)), (NOT, (self.tree_of((2, many, 300), 300),)))
        self.assertEqual(size_of(spread((2, many, 301))), 300)
        self.assertRaises(TooBig, spread, (2, many + ((NOT, (301,)),), 302))

    def test_a_long_row_of_300_steps_is_told(self):
        for inputs, first in ((1, (NOT, (0,))), (0, (HIGH, ())), (4, ((4, 27030), (3, 2, 1, 0)))):
            steps = (first,) + tuple((NOT, (inputs + s,)) for s in range(299))
            tree = spread((inputs, steps, inputs + 299))
            for k in range(299):
                self.assertEqual((tree[0], len(tree[1])), (NOT, 1))
                tree = tree[1][0]
            self.assertEqual(tree, first)

    def test_301_gates_are_refused(self):
        for inputs, first in ((1, (NOT, (0,))), (0, (HIGH, ())), (4, ((4, 27030), (3, 2, 1, 0)))):
            steps = (first,) + tuple((NOT, (inputs + s,)) for s in range(300))
            self.assertRaises(TooBig, spread, (inputs, steps, inputs + 300))
            self.assertEqual(spread((inputs, steps, inputs)), first)
        doubled = tuple((NAND, (s, s)) for s in range(8)) + tuple((NOT, (8 + s,)) for s in range(46))
        self.assertRaises(TooBig, spread, (1, doubled, 54))
        self.assertRaises(TooBig, spread, (1, tuple((NAND, (s, s)) for s in range(9)), 9))

    def test_counted_ahead(self):
        for gate, inputs in ((NAND, 1), ((3, 202), 2), ((4, 27030), 4)):
            for count in (60, 600):
                steps = tuple((gate, (inputs + s - 1,) * gate[0]) for s in range(count))
                self.assertRaises(TooBig, spread, (inputs, steps, inputs + count - 1))

    def test_what_is_not_used_does_not_count(self):
        steps = ((AND, (0, 1)),) + tuple((NAND, (2 + s, 2 + s)) for s in range(599))
        self.assertEqual(spread((2, steps, 2)), (AND, (0, 1)))
        self.assertEqual(spread((2, steps, 0)), 0)
        steps = steps[:599] + ((NOT, (2,)),)
        self.assertEqual(spread((2, steps, 601)), (NOT, ((AND, (0, 1)),)))


class TreeCircuit(TestCase):
    def test_examples(self):
        self.assert_circuit(tree_circuit((NOT, ((AND, (0, 1)),)), 2), (2, ((AND, (0, 1)), (NOT, (2,))), 3))
        self.assert_circuit(tree_circuit(XOR_TREE, 2),
                            (2, ((NAND, (0, 1)), (NAND, (0, 2)), (NAND, (0, 1)), (NAND, (4, 1)), (NAND, (3, 5))), 6))
        self.assert_circuit(tree_circuit((HIGH, ()), 0), (0, ((HIGH, ()),), 0))
        self.assert_circuit(tree_circuit((HIGH, ()), 3), (3, ((HIGH, ()),), 3))

    def test_an_inputs_number_alone(self):
        for inputs in range(1, 5):
            for j in range(inputs):
                self.assert_circuit(tree_circuit(j, inputs), (inputs, (), j))

    def test_parts_ahead_of_their_gate_from_the_left(self):
        tree = ((3, 202), ((NOT, ((LOW, ()),)), (OR, (1, (AND, (1, 0)))), (XOR, (0, 1))))
        steps = ((LOW, ()), (NOT, (2,)), (AND, (1, 0)), (OR, (1, 4)), (XOR, (0, 1)), ((3, 202), (3, 5, 6)))
        self.assert_circuit(tree_circuit(tree, 2), (2, steps, 7))

    def test_many(self):
        for tree, inputs in TREES:
            told = tree_circuit(tree, inputs)
            self.assertIs(is_circuit(told), True)
            self.assertEqual(told[0], inputs)
            self.assertEqual([gate for gate, ends in told[1]], steps_of(tree))
            self.assertEqual(len(told[1]), size_of(tree))
            self.assertEqual(gate_of(told), tree_gate(tree, inputs))
            self.assertEqual(circuit_gate(told), (inputs, tree_table(tree, inputs)))
            self.assertEqual(told[2], inputs + len(told[1]) - 1 if told[1] else tree)

    def test_spread_of_a_trees_circuit_is_the_tree(self):
        for tree, inputs in TREES:
            self.assertLessEqual(size_of(tree), 300)
            self.assertEqual(spread(tree_circuit(tree, inputs)), tree)

    def test_the_circuit_of_what_is_spread(self):
        draw = random.Random(17)
        circuits = [XOR_OF_NANDS] + [drawn_circuit(draw, inputs, 6) for inputs in range(5) for again in range(20)]
        for circuit in circuits:
            told = tree_circuit(spread(circuit), circuit[0])
            self.assertEqual(gate_of(told), gate_of(circuit))
            self.assertEqual(len(told[1]), tree_size(spread(circuit)))
            used = [end for gate, ends in told[1] for end in ends if end >= circuit[0]]
            self.assertEqual(sorted(used), [circuit[0] + s for s in range(len(told[1]) - 1)])
            self.assert_circuit(tree_circuit(spread(told), circuit[0]), told)


class AskedAgain(TestCase):
    def test_nothing_asked_changes_what_is_told_later(self):
        def ask_all():
            told = [[tree_table(tree, inputs), tree_size(tree), tree_circuit(tree, inputs)] for tree, inputs in TREES]
            return told + [spread(XOR_OF_NANDS[:2] + (out,)) for out in range(6)]

        kept = repr(TREES)
        first = ask_all()
        told = repr(first)
        self.assertEqual(ask_all(), first)
        self.assertEqual(repr(first), told)
        self.assertEqual(repr(TREES), kept)


if __name__ == "__main__":
    unittest.main()
