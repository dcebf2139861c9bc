"""Trees: point [11] of the document.

A tree is the number of an input, or a tuple (gate, parts), parts a tuple of trees.
"""

from gatekin.errors import TooBig
from gatekin.gates import input_table, is_whole, put

MOST_GATES = 300


def tree_table(tree, inputs):
    if is_whole(tree):
        return input_table(inputs, tree)
    tables = []
    for part in tree[1]:
        tables.append(tree_table(part, inputs))
    return put(tree[0], tables, inputs)


def tree_size(tree):
    if is_whole(tree):
        return 0
    size = 1
    for part in tree[1]:
        size = size + tree_size(part)
    return size


def spread_size(circuit):
    sizes = [0] * circuit[0]
    for step in circuit[1]:
        sizes.append(1 + sum([sizes[wire] for wire in step[1]]))
    return sizes[circuit[2]]


def spread(circuit):
    if spread_size(circuit) > MOST_GATES:
        raise TooBig("spread, the circuit would have more than 300 gates")
    # Wire by wire, not down from out: so a long row of steps takes no deep recursion.
    trees = list(range(circuit[0]))
    for step in circuit[1]:
        trees.append((step[0], tuple([trees[wire] for wire in step[1]])))
    return trees[circuit[2]]


# The steps are added to the list that is handed in, since those of all parts go behind one another into one list;
# told is the wire that gives what the tree gives.
def add_tree(steps, inputs, tree):
    if is_whole(tree):
        return tree
    ends = []
    for part in tree[1]:
        ends.append(add_tree(steps, inputs, part))
    steps.append((tree[0], tuple(ends)))
    return inputs + len(steps) - 1


def tree_circuit(tree, inputs):
    steps = []
    out = add_tree(steps, inputs, tree)
    return (inputs, tuple(steps), out)
