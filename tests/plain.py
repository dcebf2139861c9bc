"""What the document says, reckoned the long way, and things to try: for the tests alone."""

from itertools import product

GREAT = 10 ** 60 - 1


def limit(inputs):
    return 2 ** (2 ** inputs)


def value_lists(inputs):
    return [list(values) for values in product((0, 1), repeat=inputs)]


def number(values):
    return sum(v * 2 ** place for place, v in enumerate(values))


def gate_value(gate, values):
    return gate[1] // 2 ** number(values) % 2


def gate_from(inputs, told):
    """The gate whose value at each list of values is told by a function."""
    return (inputs, sum(told(values) * 2 ** number(values) for values in value_lists(inputs)))


def spread(below, count):
    """The ends and some numbers between, mixed so that no two bits go together."""
    if below <= count:
        return list(range(below))
    mixed = [(k * 0x9E3779B1 + (k * k * 0x85EBCA6B >> 5)) % below for k in range(count - 4)]
    return [0, 1, below - 2, below - 1] + mixed


def some_gates(inputs, count=300):
    """All gates of at most three inputs, and a spread of those of four."""
    singles = [2 ** place for place in range(2 ** inputs)]
    return [(inputs, bits) for bits in sorted(set(spread(limit(inputs), count) + singles))]


def circuit_rows(circuit):
    """For each row, the values of all wires."""
    inputs, steps, out = circuit
    rows = []
    for row in range(2 ** inputs):
        values = [row // 2 ** j % 2 for j in range(inputs)]
        for gate, ends in steps:
            values.append(gate_value(gate, [values[end] for end in ends]))
        rows.append(values)
    return rows


def long_circuit(inputs, count):
    """Steps of all sizes of gates, each drawing on the wires just ahead and far back."""
    steps = []
    for s in range(count):
        size = (s * 7 + s // 5) % 5 if inputs + s > 0 else 0
        bits = (s * 0x9E3779B1 + 0x6B43A9B5) % limit(size)
        there = inputs + s
        ends = tuple([there - 1, s * s % max(there, 1), there // 2, there - 1 - s % max(there, 1)][:size])
        steps.append(((size, bits), ends))
    return (inputs, tuple(steps), inputs + count - 1)


def drawn_gate(draw, most=4):
    inputs = draw.randrange(most + 1)
    return (inputs, draw.randrange(limit(inputs)))


def drawn_circuit(draw, inputs, count, gates=None, near=None):
    """Steps of drawn gates; with near, a step draws on that many wires just ahead alone."""
    steps = []
    for there in range(inputs, inputs + count):
        gate = draw.choice(gates) if gates else drawn_gate(draw)
        gate = gate if there > 0 else (0, gate[1] % 2)
        low = max(0, there - near) if near else 0
        steps.append((gate, tuple(draw.randrange(low, there) for end in range(gate[0]))))
    return (inputs, tuple(steps), draw.randrange(inputs + count))


def circuit_gate(circuit):
    told = [values[circuit[2]] for values in circuit_rows(circuit)]
    return (circuit[0], number(told))


def tree_gate(tree, inputs):
    """Row by row, without the tables; for trees that are not deep."""
    def at(part, values):
        if isinstance(part, int):
            return values[part]
        return gate_value(part[0], [at(inner, values) for inner in part[1]])

    return (inputs, sum(at(tree, [row // 2 ** j % 2 for j in range(inputs)]) * 2 ** row for row in range(2 ** inputs)))


def columns_of(row, width):
    return [row // 2 ** column % 2 for column in range(width)]


def row_put(gate, rows, width):
    return number([gate_value(gate, list(column)) for column in zip(*[columns_of(row, width) for row in rows])]
                  if rows else [gate[1]] * width)


def first_broken(gate, relation):
    width, rows = relation
    for chosen in product(rows, repeat=gate[0]):
        if row_put(gate, chosen, width) not in rows:
            return list(chosen)
    return None


def least_closed(relation, gates):
    """The rows are gone through again and again, until none is new; None where there are too many."""
    width, rows = relation
    rows = set(rows)
    while True:
        if len(rows) > 128 or sum(len(rows) ** gate[0] for gate in gates) > 20000:
            return None
        given = {row_put(gate, chosen, width) for gate in gates for chosen in product(sorted(rows), repeat=gate[0])}
        if given <= rows:
            return (width, tuple(sorted(rows)))
        rows |= given


def tables_of_inputs(inputs):
    return [sum(2 ** row for row in range(2 ** inputs) if row // 2 ** j % 2) for j in range(inputs)]


def least_tables(gates, inputs):
    """The tables that can be made, rising; None where there are too many."""
    told = least_closed((2 ** inputs, tuple(tables_of_inputs(inputs))), gates)
    return None if told is None else told[1]


def least_costs(gates, inputs):
    """For each table the least size of a tree with it: the sizes are tried in turn, each with all gates and all parts."""
    whole = least_tables(gates, inputs)
    if whole is None:
        return None
    costs = {table: 0 for table in tables_of_inputs(inputs)}
    by_size = [sorted(costs)]
    while len(costs) < len(whole):
        size = len(by_size)
        fresh = set()
        for gate in gates:
            for sizes in product(range(size), repeat=gate[0]):
                if sum(sizes) == size - 1:
                    for chosen in product(*[by_size[part] for part in sizes]):
                        fresh.add(row_put(gate, chosen, 2 ** inputs))
        by_size.append(sorted(fresh - set(costs)))
        costs.update({table: size for table in by_size[size]})
    return costs


def trees_of(gates, inputs, size):
    """All trees of just this size."""
    if size == 0:
        yield from range(inputs)
        return
    for gate in gates:
        for sizes in product(range(size), repeat=gate[0]):
            if sum(sizes) == size - 1:
                for parts in product(*[list(trees_of(gates, inputs, part)) for part in sizes]):
                    yield (gate, parts)


def gates_within(tree):
    if isinstance(tree, int):
        return []
    return [tree[0]] + [gate for part in tree[1] for gate in gates_within(part)]


def is_relation(thing):
    width, rows = thing
    return (type(thing) is tuple and type(rows) is tuple and 0 <= width <= 16 and len(rows) <= 256
            and list(rows) == sorted(set(rows)) and all(0 <= row < 2 ** width for row in rows))


def formula_relation(formula):
    width, parts, columns = formula
    met = [{tuple(columns_of(row, relation[0])) for row in relation[1]} for relation, picks in parts]
    told = set()
    for values in product((0, 1), repeat=width):
        if all(tuple(values[pick] for pick in picks) in rows for (relation, picks), rows in zip(parts, met)):
            told.add(number([values[column] for column in columns]))
    return (len(columns), tuple(sorted(told)))


def drawn_relation(draw, width, count):
    count = min(count, 2 ** width)
    return (width, tuple(sorted(draw.sample(range(2 ** width), count))))


def kinds_within(thing):
    """What kinds of things a thing is made of."""
    if type(thing) in (tuple, list):
        return {type(thing)}.union(*[kinds_within(part) for part in thing])
    return {type(thing)}
