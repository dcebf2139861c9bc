"""What the document says, reckoned the long way, and things to try: for the tests alone."""

from itertools import product

GREAT = 10 ** 60 - 1


def limit(inputs):
    return 2 ** (2 ** inputs)


def value_lists(inputs):
    return [list(values) for values in product((0, 1), repeat=inputs)]


def number(values):
    return sum(v * 2 ** place for place, v in enumerate(values))


def gate_value(gate, values):
    return gate[1] // 2 ** number(values) % 2


def gate_from(inputs, told):
    """The gate whose value at each list of values is told by a function."""
    return (inputs, sum(told(values) * 2 ** number(values) for values in value_lists(inputs)))


def spread(below, count):
    """The ends and some numbers between, mixed so that no two bits go together."""
    if below <= count:
        return list(range(below))
    mixed = [(k * 0x9E3779B1 + (k * k * 0x85EBCA6B >> 5)) % below for k in range(count - 4)]
    return [0, 1, below - 2, below - 1] + mixed


def some_gates(inputs, count=300):
    """All gates of at most three inputs, and a spread of those of four."""
    singles = [2 ** place for place in range(2 ** inputs)]
    return [(inputs, bits) for bits in sorted(set(spread(limit(inputs), count) + singles))]


def circuit_rows(circuit):
    """For each row, the values of all wires."""
    inputs, steps, out = circuit
    rows = []
    for row in range(2 ** inputs):
        values = [row // 2 ** j % 2 for j in range(inputs)]
        for gate, ends in steps:
            values.append(gate_value(gate, [values[end] for end in ends]))
        rows.append(values)
    return rows


def long_circuit(inputs, count):
    """Steps of all sizes of gates, each drawing on the wires just ahead and far back."""
    steps = []
    for s in range(count):
        size = (s * 7 + s // 5) % 5 if inputs + s > 0 else 0
        bits = (s * 0x9E3779B1 + 0x6B43A9B5) % limit(size)
        there = inputs + s
        ends = tuple([there - 1, s * s % max(there, 1), there // 2, there - 1 - s % max(there, 1)][:size])
        steps.append(((size, bits), ends))
    return (inputs, tuple(steps), inputs + count - 1)
