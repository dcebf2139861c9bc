"""Circuits joined, shared and turned: points [8], [9] and [10] of the document."""

from gatekin.circuits import MOST_STEPS
from gatekin.errors import TooBig
from gatekin.gates import turned


def renamed(step, names):
    return (step[0], tuple([names[wire] for wire in step[1]]))


# The steps are added to the list that is handed in, since those of all parts go behind one another into one list;
# told is the wire that the circuit's out is there.
def add_circuit(steps, inputs, circuit, starts):
    names = list(starts)
    for step in circuit[1]:
        steps.append(renamed(step, names))
        names.append(inputs + len(steps) - 1)
    return names[circuit[2]]


def joined(circuit, parts):
    if len(circuit[1]) + sum([len(part[1]) for part in parts]) > MOST_STEPS:
        raise TooBig("joined, the circuit would have more than 600 steps")
    if len(parts) == 0:
        return circuit
    inputs = parts[0][0]
    steps = []
    outs = []
    for part in parts:
        outs.append(add_circuit(steps, inputs, part, list(range(inputs))))
    out = add_circuit(steps, inputs, circuit, outs)
    return (inputs, tuple(steps), out)


# The kit has for each gate of the circuit another circuit that gives it.
def replaced(circuit, kit):
    inputs = circuit[0]
    names = list(range(inputs))
    steps = []
    for step in circuit[1]:
        names.append(add_circuit(steps, inputs, kit[step[0]], [names[wire] for wire in step[1]]))
    return (inputs, tuple(steps), names[circuit[2]])


def without_doubles(circuit):
    inputs = circuit[0]
    names = list(range(inputs))
    steps = []
    stayed = {}
    for old in circuit[1]:
        step = renamed(old, names)
        if step not in stayed:
            stayed[step] = inputs + len(steps)
            steps.append(step)
        names.append(stayed[step])
    return (inputs, tuple(steps), names[circuit[2]])


def used_wires(circuit):
    inputs = circuit[0]
    steps = circuit[1]
    used = {circuit[2]: True}
    # A step is used by out and by later steps alone: from the last one on, all its users are known.
    for s in range(len(steps) - 1, -1, -1):
        if inputs + s in used:
            for wire in steps[s][1]:
                used[wire] = True
    return used


def without_unused(circuit):
    inputs = circuit[0]
    used = used_wires(circuit)
    names = {}
    for j in range(inputs):
        names[j] = j
    steps = []
    for s, step in enumerate(circuit[1]):
        if inputs + s in used:
            steps.append(renamed(step, names))
            names[inputs + s] = inputs + len(steps) - 1
    return (inputs, tuple(steps), names[circuit[2]])


def shared(circuit):
    return without_unused(without_doubles(circuit))


def turned_circuit(circuit):
    steps = [(turned(step[0]), step[1]) for step in circuit[1]]
    return (circuit[0], tuple(steps), circuit[2])
