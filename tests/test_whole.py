"""What the document promises over the whole program: points [1], [2] and [3]."""

import copy
import os
import random
import subprocess
import sys
import unittest
from itertools import combinations
from pathlib import Path

from gatekin.build import build, makes_all
from gatekin.circuits import gate_of, is_circuit, wires
from gatekin.desk import Desk
from gatekin.errors import TooBig, TooMany
from gatekin.formulas import beside, both, picked, relation_of
from gatekin.gates import in_order, input_table, is_gate, matters, put, turned, value, with_set
from gatekin.joins import joined, shared, turned_circuit
from gatekin.keepers import keepers, made_of
from gatekin.kinds import KINDS, kind, kinds, outsider
from gatekin.made import made, tables_made
from gatekin.prices import holds, least_tree, paper
from gatekin.relations import broken, closed, keeps, put_rows, relation
from gatekin.sets import least_part, same
from gatekin.texts import (
    circuit_text, gate_text, read_circuit, read_gate, read_relation, read_set, relation_text, set_text,
)
from gatekin.trees import spread, tree_circuit, tree_size, tree_table
from tests.plain import circuit_gate, drawn_circuit, drawn_gate, drawn_relation, first_broken, formula_relation, limit

LOW, HIGH, NOT, SAME = (0, 0), (0, 1), (1, 1), (1, 2)
AND, OR, XOR, NAND = (2, 8), (2, 14), (2, 6), (2, 7)
MOST_OF_THREE = (3, 232)
RISE, TURN = (2, (0, 2, 3)), (2, (1, 2))
CIRCUIT = (2, ((AND, (0, 1)), (NOT, (2,)), (AND, (0, 1))), 3)
TREE = (NOT, ((AND, (0, 1)),))
HOME = Path(__file__).resolve().parent.parent

# Each function of the interface, with something to ask.
ASKED = [
    (is_gate, [AND]), (value, [AND, [1, 0]]), (input_table, [2, 1]), (put, [AND, [10, 12], 2]), (turned, [AND]),
    (with_set, [AND, 0, 1]), (in_order, [(2, 2), [1, 0]]), (matters, [AND]), (is_circuit, [CIRCUIT]),
    (wires, [CIRCUIT]), (gate_of, [CIRCUIT]), (joined, [CIRCUIT, [(1, ((NOT, (0,)),), 1), (1, (), 0)]]),
    (shared, [CIRCUIT]), (turned_circuit, [CIRCUIT]), (tree_table, [TREE, 2]), (tree_size, [TREE]), (spread, [CIRCUIT]),
    (tree_circuit, [TREE, 2]), (relation, [2, [3, 0, 2, 0]]), (put_rows, [AND, [12, 10], 4]), (keeps, [AND, RISE]),
    (broken, [XOR, RISE]), (closed, [TURN, [AND, OR]]), (relation_of, [(2, ((RISE, (0, 1)),), (1, 0))]),
    (both, [RISE, TURN]), (beside, [RISE, TURN]), (picked, [RISE, [1, 0]]), (tables_made, [[AND, OR], 2]),
    (made, [[AND], OR]), (made, [[AND, NOT], OR]), (made, [[], HIGH]), (kind, ["even"]), (kinds, [[AND, NOT]]),
    (outsider, ["rise"]), (makes_all, [[NAND]]), (build, [[NAND], XOR]), (paper, [[AND, OR], 2]),
    (holds, [[AND], 2, [(10, 0), (12, 0), (8, 1)]]), (least_tree, [[AND, NOT], XOR]), (keepers, [[RISE, TURN], 2]),
    (made_of, [[RISE], (2, (0, 3))]), (made_of, [[RISE], TURN]), (least_part, [[AND, NOT, OR, SAME]]),
    (same, [[NAND], [AND, NOT]]), (same, [[AND], [AND, OR]]), (gate_text, [AND]), (relation_text, [RISE]),
    (circuit_text, [CIRCUIT]), (set_text, [[AND, NOT]]), (read_gate, ["2:0001"]), (read_relation, ["2: 00 01 11"]),
    (read_circuit, ["1; > 0"]), (read_set, ["2:0001 1:10"]),
]


def spoil(thing):
    """Whatever can be changed in a thing that was told or handed in is changed."""
    if type(thing) in (list, tuple):
        for part in thing:
            spoil(part)
    if type(thing) is list:
        thing.append("spoiled")
        thing.reverse()


def drawn_set(draw, most, count):
    return [drawn_gate(draw, most) for number in range(draw.randrange(1, count + 1))]


def exchanged(told):
    """The relation with 0 and 1 exchanged in each row."""
    return (told[0], tuple(sorted(2 ** told[0] - 1 - row for row in told[1])))


class Kept(unittest.TestCase):
    """A circuit's gate keeps what its gates keep."""

    def drawn_kept(self, draw, most=2):
        """Some gates and a relation that they all keep, with more than no rows and fewer than all."""
        while True:
            gates = drawn_set(draw, most, 3)
            width = draw.randrange(1, 5)
            try:
                told = closed(drawn_relation(draw, width, draw.randrange(1, 4)), gates)
            except TooMany:
                continue
            if 0 < len(told[1]) < 2 ** width:
                return (gates, told)

    def assert_kept(self, circuit, told):
        self.assertIs(keeps(gate_of(circuit), told), True)
        self.assertIsNone(first_broken(circuit_gate(circuit), told))

    def test_circuits(self):
        draw = random.Random(90)
        for again in range(150):
            gates, told = self.drawn_kept(draw)
            inputs = draw.randrange(1, 4)
            self.assert_kept(drawn_circuit(draw, inputs, draw.randrange(1, 12), gates), told)

    def test_shared_and_spread(self):
        draw = random.Random(91)
        for again in range(120):
            gates, told = self.drawn_kept(draw)
            inputs = draw.randrange(1, 4)
            circuit = drawn_circuit(draw, inputs, draw.randrange(1, 12), gates)
            self.assert_kept(shared(circuit), told)
            try:
                tree = spread(circuit)
            except TooBig:
                continue
            self.assertEqual((inputs, tree_table(tree, inputs)), circuit_gate(circuit))
            self.assert_kept(tree_circuit(tree, inputs), told)

    def test_joined(self):
        draw = random.Random(92)
        for again in range(120):
            gates, told = self.drawn_kept(draw)
            inputs = draw.randrange(1, 4)
            circuit = drawn_circuit(draw, draw.randrange(1, 4), draw.randrange(1, 8), gates)
            parts = [drawn_circuit(draw, inputs, draw.randrange(1, 8), gates) for part in range(circuit[0])]
            self.assert_kept(joined(circuit, parts), told)
            self.assert_kept(shared(joined(circuit, parts)), told)

    def test_turned(self):
        draw = random.Random(93)
        for again in range(120):
            gates, told = self.drawn_kept(draw)
            circuit = drawn_circuit(draw, draw.randrange(1, 4), draw.randrange(1, 12), gates)
            for gate in gates:
                self.assertIs(keeps(turned(gate), exchanged(told)), True)
            self.assert_kept(turned_circuit(circuit), exchanged(told))
            self.assert_kept(turned_circuit(turned_circuit(circuit)), told)
            self.assert_kept(turned_circuit(shared(circuit)), exchanged(told))

    def test_kinds(self):
        draw = random.Random(94)
        for again in range(100):
            gates = drawn_set(draw, 3, 2)
            breaches = kinds(gates)
            circuit = drawn_circuit(draw, draw.randrange(1, 4), draw.randrange(1, 10), gates)
            for name, breach in zip(KINDS, breaches):
                if breach is None:
                    self.assert_kept(circuit, kind(name))
                    self.assert_kept(shared(circuit), kind(name))

    def test_formulas(self):
        """What formulas make of kept relations is kept by circuits too."""
        draw = random.Random(95)
        for again in range(60):
            gates, told = self.drawn_kept(draw)
            width = draw.randrange(1, 5)
            parts = tuple((told,
                           tuple(draw.randrange(width) for pick in range(told[0]))) for k in range(draw.randrange(3)))
            wide = relation_of((width, parts, tuple(draw.randrange(width) for column in range(3))))
            self.assert_kept(drawn_circuit(draw, 2, draw.randrange(1, 9), gates), wide)


class MadeOrNot(unittest.TestCase):
    """Just one of both is told, and the answers of unlike functions go together."""

    def test_what_is_made_is_kept_and_what_is_not_is_broken(self):
        draw = random.Random(96)
        for again in range(120):
            gates = drawn_set(draw, 2, 3)
            inputs = draw.randrange(3)
            tables = tables_made(gates, inputs)
            self.assertEqual([table for table, cost in paper(gates, inputs)], list(tables))
            for bits in range(0, limit(inputs), 3):
                told = made(gates, (inputs, bits))
                self.assertEqual(told[0], "made" if bits in tables else "cant")
                if told[0] == "made":
                    self.assertEqual(gate_of(told[1]), (inputs, bits))
                    self.assertLessEqual({step[0] for step in told[1][1]}, set(gates))
                else:
                    self.assertTrue(all(keeps(gate, told[1]) for gate in gates))
                    self.assertFalse(keeps((inputs, bits), told[1]))

    def test_nothing_that_is_made_breaks_what_the_gates_keep(self):
        draw = random.Random(97)
        for again in range(80):
            relations = [drawn_relation(draw, draw.randrange(4),
                                        draw.randrange(5)) for k in range(draw.randrange(1, 4))]
            kept = {inputs: keepers(relations, inputs) for inputs in range(4)}
            choices = [(inputs, bits) for inputs in range(3) for bits in kept[inputs]]
            gates = draw.sample(choices, min(3, len(choices)))
            for inputs in range(3):
                self.assertLessEqual(set(tables_made(gates, inputs)), set(kept[inputs]))
                shut_out = [bits for bits in range(limit(inputs)) if bits not in kept[inputs]]
                for bits in shut_out[:6]:
                    self.assertEqual(made(gates, (inputs, bits))[0], "cant")

    def test_the_relation_that_parts_gates_is_no_keepers(self):
        for gates in combinations([LOW, HIGH, NOT, AND, OR, XOR, (2, 9), (2, 2), MOST_OF_THREE], 2):
            for wish in (NOT, AND, XOR, OR, (2, 2), (1, 0)):
                told = made(list(gates), wish)
                if told[0] == "cant" and len(told[1][1]) <= 4:
                    self.assertNotIn(wish[1], keepers([told[1]], wish[0]))
                    for gate in gates:
                        self.assertIn(gate[1], keepers([told[1]], gate[0]))

    def test_relations(self):
        draw = random.Random(98)
        count = {"made": 0, "cant": 0}
        for again in range(200):
            relations = [drawn_relation(draw, draw.randrange(1, 4),
                                        draw.randrange(1, 5)) for k in range(draw.randrange(1, 4))]
            wish = drawn_relation(draw, draw.randrange(1, 4 + again % 4), draw.randrange(1, 4))
            told = made_of(relations, wish)
            count[told[0]] += 1
            if told[0] == "made":
                self.assertEqual(relation_of(told[1]), wish)
                self.assertEqual(formula_relation(told[1]), wish)
                for inputs in range(3):
                    self.assertLessEqual(set(keepers(relations, inputs)), set(self.keepers_of(wish, inputs)))
            else:
                self.assertTrue(all(keeps(told[1], given) for given in relations))
                self.assertFalse(keeps(told[1], wish))
        self.assertGreater(min(count.values()), 10)

    def keepers_of(self, wish, inputs):
        return [bits for bits in range(limit(inputs)) if keeps((inputs, bits), wish)]

    def test_a_relation_of_gates_is_a_relation_of_relations(self):
        """A relation closed by all gates that keep some relations can be made of these."""
        draw = random.Random(99)
        count = 0
        for again in range(120):
            relations = [drawn_relation(draw, 2, draw.randrange(1, 4)) for k in range(2)]
            gates = [(2, bits) for bits in keepers(relations, 2)] + [(0, bits) for bits in keepers(relations, 0)]
            wide = closed(drawn_relation(draw, draw.randrange(1, 5), 2), gates[:6])
            if len(wide[1]) <= 3:
                told = made_of(relations, wide)
                breakers = [bits for bits in keepers(relations, len(wide[1])) if not keeps((len(wide[1]), bits), wide)]
                self.assertEqual(told[0], "cant" if breakers else "made")
                count += told[0] == "made"
        self.assertGreater(count, 10)

    def test_sets_that_make_all(self):
        draw = random.Random(100)
        for again in range(60):
            gates = drawn_set(draw, 3, 4)
            self.assertIs(makes_all(gates), None not in kinds(gates))
            if makes_all(gates):
                wish = (4, draw.randrange(65536))
                self.assertEqual(gate_of(build(gates, wish)), wish)
            else:
                name = KINDS[kinds(gates).index(None)]
                self.assertEqual(made(gates, outsider(name))[0], "cant")

    def test_least_trees(self):
        draw = random.Random(101)
        for again in range(60):
            gates = drawn_set(draw, 2, 3)
            costs = dict(paper(gates, 2))
            self.assertIs(holds(gates, 2, list(costs.items())), True)
            for bits in list(costs)[::2]:
                tree = least_tree(gates, (2, bits))
                self.assertEqual((tree_size(tree), tree_table(tree, 2)), (costs[bits], bits))
                told = made(gates, (2, bits))
                self.assertEqual(told[0], "made")
                try:
                    size = tree_size(spread(told[1]))
                except TooBig:
                    size = 301
                self.assertGreaterEqual(size, costs[bits])


class Parts(unittest.TestCase):
    """A set's least part makes the same, and none of its gates can be made of its others."""

    def assert_part(self, gates):
        stay, out = least_part(gates)
        left = [gates[told[0]] for told in stay]
        self.assertEqual(same(gates, left)[0], "same")
        self.assertEqual(same(left, gates)[0], "same")
        for inputs in range(2):
            self.assertEqual(tables_made(left, inputs), tables_made(gates, inputs))
        self.assertEqual(makes_all(left), makes_all(gates))
        self.assertEqual([told is None for told in kinds(left)], [told is None for told in kinds(gates)])
        for number in range(len(left)):
            others = left[:number] + left[number + 1:]
            self.assertEqual(made(others, left[number])[0], "cant")
            self.assertEqual(same(left, others)[:3], ("unlike", 0, number))
        self.assertEqual(least_part(left)[1], [])

    def test_drawn_sets(self):
        draw = random.Random(102)
        for again in range(100):
            self.assert_part([drawn_gate(draw, 2) for number in range(draw.randrange(7))])

    def test_sets_with_gates_of_three_inputs(self):
        for gates in ([MOST_OF_THREE, AND], [AND, OR, MOST_OF_THREE], [NAND, MOST_OF_THREE, (3, 150)],
                      [LOW, MOST_OF_THREE, HIGH, OR], [(3, 150), XOR, NOT], [MOST_OF_THREE, NOT, LOW, (3, 202)]):
            self.assert_part(gates)

    def test_a_part_and_its_set_keep_the_same(self):
        draw = random.Random(103)
        for again in range(60):
            gates = drawn_set(draw, 2, 6)
            left = [gates[told[0]] for told in least_part(gates)[0]]
            told = drawn_relation(draw, draw.randrange(4), draw.randrange(5))
            self.assertIs(all(keeps(gate, told) for gate in left), all(keeps(gate, told) for gate in gates))
            self.assertEqual(closed(told, left), closed(told, gates))


class OwnThings(unittest.TestCase):
    """Nothing that is handed in is changed, and what is told is the asker's own."""

    def test_what_is_handed_in_stays(self):
        for function, things in ASKED:
            with self.subTest(function=function.__name__):
                handed = copy.deepcopy(things)
                function(*handed)
                self.assertEqual(handed, things)
                self.assertEqual(repr(handed), repr(things))

    def test_what_is_done_to_it_changes_nothing(self):
        for function, things in ASKED:
            with self.subTest(function=function.__name__):
                handed = copy.deepcopy(things)
                told = function(*handed)
                kept = repr(told)
                spoil(handed)
                self.assertEqual(repr(told), kept)
                self.assertEqual(repr(function(*copy.deepcopy(things))), kept)

    def test_what_is_done_to_what_is_told_changes_nothing(self):
        for function, things in ASKED:
            with self.subTest(function=function.__name__):
                handed = copy.deepcopy(things)
                told = function(*handed)
                again = function(*handed)
                kept = repr(again)
                spoil(told)
                self.assertEqual(repr(again), kept)
                self.assertEqual(repr(handed), repr(things))
                self.assertEqual(repr(function(*copy.deepcopy(things))), kept)

    def test_each_order_of_asking_tells_the_same(self):
        first = [repr(function(*copy.deepcopy(things))) for function, things in ASKED]
        last = [repr(function(*copy.deepcopy(things))) for function, things in reversed(ASKED)]
        self.assertEqual(first, last[::-1])

    def test_kinds_as_the_interface_tells_them(self):
        told = {function.__name__: type(function(*copy.deepcopy(things))) for function, things in ASKED}
        for name, expected in (("wires", list), ("matters", list), ("broken", list), ("kinds", list), ("paper", list),
                               ("read_set", list), ("tables_made", tuple), ("keepers", tuple), ("made", tuple),
                               ("made_of", tuple),
                               ("least_part", tuple), ("same", tuple), ("keeps", bool), ("holds", bool),
                               ("makes_all", bool),
                               ("is_gate", bool), ("is_circuit", bool), ("gate_text", str), ("set_text", str)):
            self.assertIs(told[name], expected, name)


class NothingElse(unittest.TestCase):
    """Nothing hangs on a clock, chance or files: another run tells the same."""

    SCRIPT = "from tests.test_whole import told_by_all; print(told_by_all())"

    def run_with(self, seed):
        there = dict(os.environ, PYTHONHASHSEED=seed, PYTHONPATH=str(HOME))
        return subprocess.run([sys.executable, "-B", "-c", self.SCRIPT], env=there, cwd=HOME, capture_output=True,
                              text=True, check=True).stdout

    def test_other_runs(self):
        here = told_by_all() + "\n"
        for seed in ("0", "1", "77"):
            self.assertEqual(self.run_with(seed), here)


def told_by_all():
    desk = Desk()
    told = [repr(function(*copy.deepcopy(things))) for function, things in ASKED]
    for row in ("set a 2:0001 1:10 2:0111", "relation r 2: 00 01 11", "made a 3:01101001", "part b a", "show b",
                "closed s a r", "table s", "kinds a"):
        told.append(desk.say(row))
    return "\n".join(told)


if __name__ == "__main__":
    unittest.main()
