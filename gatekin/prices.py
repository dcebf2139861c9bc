"""Costs and least trees: points [21], [22] and [23] of the document."""

from gatekin.errors import NotMade, TooBig
from gatekin.gates import input_tables, put
from gatekin.relations import lists_of
from gatekin.trees import MOST_GATES
from gatekin.ways import way_tree, ways


def paper(gates, inputs):
    found = ways(gates, inputs)
    return [(table, found[table][0]) for table in sorted(found)]


def gate_holds(gate, inputs, costs):
    for chosen in lists_of([list(costs)] * gate[0]):
        given = put(gate, chosen, inputs)
        if given not in costs or costs[given] > 1 + sum([costs[table] for table in chosen]):
            return False
    return True


def holds(gates, inputs, rows):
    costs = dict(rows)
    if len(costs) < len(rows):
        return False
    if not all([costs.get(table) == 0 for table in input_tables(inputs)]):
        return False
    return all([gate_holds(gate, inputs, costs) for gate in gates])


def least_tree(gates, wish):
    found = ways(gates, wish[0])
    if wish[1] not in found:
        raise NotMade("the wished gate can't be made of the set")
    if found[wish[1]][0] > MOST_GATES:
        raise TooBig("the least tree has more than 300 gates")
    return way_tree(found, wish[1])
