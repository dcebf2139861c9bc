"""Sets that make all, and circuits of them: point [20] of the document.

A wish is first made of NOT and NAND alone; then each of these is replaced by a circuit of the set's gates.
"""

from gatekin.errors import NotAll
from gatekin.gates import full_table, is_whole, put, with_set
from gatekin.joins import add_circuit, replaced, shared
from gatekin.kinds import KINDS, kinds
from gatekin.relations import lists_of
from gatekin.trees import tree_circuit
from gatekin.ways import way_circuit, ways

NOT = (1, 1)
AND = (2, 8)
NAND = (2, 7)


def makes_all(gates):
    return None not in kinds(gates)


def opposite(tree):
    if not is_whole(tree) and tree[0] == NOT:
        return tree[1][0]
    return (NOT, (tree,))


# A wish is 0 just where both its sides, the half where its last input is 0 and the half where it is 1, are 1: each side
# is 1 in the other half and in its own is the opposite of the wish. A side that is 1 everywhere is left out.
def side(half, there):
    if half[1] == 0:
        return []
    if half[1] == full_table(half[0]):
        return [opposite(there)]
    return [(NAND, (there, plain_tree(half)))]


def plain_tree(wish):
    last = wish[0] - 1
    low = with_set(wish, last, 0)
    high = with_set(wish, last, 1)
    if low == high:
        return plain_tree(low)
    sides = side(low, opposite(last)) + side(high, last)
    if len(sides) == 1:
        return opposite(sides[0])
    return (NAND, tuple(sides))


# A constant is told apart: none of its halves would ever be unlike the other.
def wish_tree(wish):
    always = (NAND, (0, opposite(0)))
    if wish[1] == full_table(wish[0]):
        return always
    return opposite(always) if wish[1] == 0 else plain_tree(wish)


# The tables over two inputs that a gate is put to in search of NAND, with their wires: the inputs, their opposites, and
# the constants.
def tables_at_hand(steps, lone):
    return {
        10: 0,
        12: 1,
        5: add_circuit(steps, 2, lone[1], [0]),
        3: add_circuit(steps, 2, lone[1], [1]),
        0: add_circuit(steps, 2, lone[0], [0]),
        15: add_circuit(steps, 2, lone[3], [0]),
    }


def first_giving(gate, lists, wanted):
    for chosen in lists:
        if put(gate, chosen, 2) == wanted:
            return chosen
    return None


# A gate that breaks even has, with constants at all inputs but two, an odd number of ones somewhere: there it is AND or
# NAND of these two or of their opposites.
def nand_circuit(gate, lone):
    steps = []
    wires = tables_at_hand(steps, lone)
    lists = lists_of([list(wires)] * gate[0])
    direct = first_giving(gate, lists, NAND[1])
    chosen = first_giving(gate, lists, AND[1]) if direct is None else direct
    steps.append((gate, tuple([wires[table] for table in chosen])))
    out = len(steps) + 1
    if direct is None:
        out = add_circuit(steps, 2, lone[1], [out])
    return shared((2, tuple(steps), out))


# At most three steps make NOT, and both constants with it, so NAND takes ten at most; a wish of four inputs takes NAND
# twenty-one times at most: so a circuit stays far below 600 steps.
def build(gates, wish):
    breaches = kinds(gates)
    for name, breach in zip(KINDS, breaches):
        if breach is None:
            raise NotAll(name)
    found = ways(gates, 1)
    lone = [way_circuit(found, table, 1) for table in range(4)]
    breaker = gates[breaches[4][0]]
    kit = {NOT: lone[1], NAND: nand_circuit(breaker, lone)}
    return shared(replaced(tree_circuit(wish_tree(wish), wish[0]), kit))
