"""Circuits: point [7] of the document.

A circuit is a tuple (inputs, steps, out), a step a tuple (gate, wires).
"""

from gatekin.gates import MOST_INPUTS, input_tables, is_below, is_gate, is_tuple, put

MOST_STEPS = 600


def is_step(thing, bound):
    if not is_tuple(thing, 2) or not is_gate(thing[0]):
        return False
    gate = thing[0]
    if not is_tuple(thing[1], gate[0]):
        return False
    return all([is_below(wire, bound) for wire in thing[1]])


def is_circuit(thing):
    if not is_tuple(thing, 3) or not is_below(thing[0], MOST_INPUTS + 1):
        return False
    inputs = thing[0]
    steps = thing[1]
    if not isinstance(steps, tuple) or len(steps) > MOST_STEPS:
        return False
    for s, step in enumerate(steps):
        if not is_step(step, inputs + s):
            return False
    return is_below(thing[2], inputs + len(steps))


def wires(circuit):
    inputs = circuit[0]
    tables = input_tables(inputs)
    for step in circuit[1]:
        tables.append(put(step[0], [tables[wire] for wire in step[1]], inputs))
    return tables


def gate_of(circuit):
    return (circuit[0], wires(circuit)[circuit[2]])
