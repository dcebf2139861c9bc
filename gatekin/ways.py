"""The cheapest ways to the tables that can be made: what made, build and prices draw on.

A way is a tuple (cost, gate, tables): the gate put to these tables gives the table, and cost is the size of the least
tree that has it. The way of an input's table is (0, None, ()).
"""

from gatekin.gates import input_tables, put
from gatekin.joins import without_unused
from gatekin.relations import fresh_lists, refuse_too_many


def offer(waiting, table, way):
    if table not in waiting or way[0] < waiting[table][0]:
        waiting[table] = way


def first_ways(gates, inputs):
    waiting = {}
    for table in input_tables(inputs):
        offer(waiting, table, (0, None, ()))
    # A constant is put to no tables, so none that is found would ever call for it.
    for gate in gates:
        if gate[0] == 0:
            offer(waiting, put(gate, [], inputs), (1, gate, ()))
    return waiting


def ways_from(found, table, gate, inputs):
    old = [known for known in found if known != table]
    told = []
    for chosen in fresh_lists(old, [table], gate[0]):
        given = put(gate, chosen, inputs)
        if given not in found:
            cost = 1 + sum([found[part][0] for part in chosen])
            told.append((given, (cost, gate, tuple(chosen))))
    return told


# The cheapest of the waiting ways can't be beaten: whatever is found later costs more. So the tables are found by
# rising costs, each behind those that its way is put to, the inputs first.
def ways(gates, inputs):
    found = {}
    waiting = first_ways(gates, inputs)
    while len(waiting) > 0:
        table = min(waiting, key=lambda known: waiting[known][0])
        found[table] = waiting.pop(table)
        refuse_too_many(len(found), gates)
        for gate in gates:
            for given, way in ways_from(found, table, gate, inputs):
                offer(waiting, given, way)
    return found


def way_circuit(found, table, inputs):
    wires = {}
    steps = []
    for known, way in found.items():
        wires[known] = len(wires)
        if way[1] is not None:
            steps.append((way[1], tuple([wires[part] for part in way[2]])))
    return without_unused((inputs, tuple(steps), wires[table]))


def way_tree(found, table):
    trees = {}
    for known, way in found.items():
        if way[1] is None:
            trees[known] = len(trees)
        else:
            trees[known] = (way[1], tuple([trees[part] for part in way[2]]))
    return trees[table]
