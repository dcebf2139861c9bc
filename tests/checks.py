"""Whether what is told of wished gates holds: for the tests alone."""

import unittest
from functools import lru_cache

from gatekin.circuits import is_circuit
from tests.plain import circuit_gate, first_broken, is_relation, kinds_within, least_tables, row_put


@lru_cache(None)
def is_kept(gate, relation):
    return first_broken(gate, relation) is None


@lru_cache(None)
def tables_of(gates, inputs):
    return least_tables(gates, inputs)


class Checks(unittest.TestCase):
    def assert_circuit(self, circuit, gates, wish):
        self.assertTrue(is_circuit(circuit))
        self.assertLessEqual(kinds_within(circuit), {tuple, int})
        self.assertEqual(circuit_gate(circuit), wish)
        self.assertLessEqual({step[0] for step in circuit[1]}, set(gates))

    def assert_breach(self, relation, rows, gates, wish):
        width = relation[0]
        self.assertTrue(is_relation(relation))
        self.assertLessEqual(width, 2 ** wish[0])
        self.assertLessEqual(len(relation[1]), len(tables_of(tuple(gates), wish[0])))
        for gate in gates:
            self.assertTrue(is_kept(gate, relation))
        self.assertIs(type(rows), list)
        self.assertEqual(len(rows), wish[0])
        self.assertLessEqual(set(rows), set(relation[1]))
        self.assertNotIn(row_put(wish, rows, width), relation[1])
