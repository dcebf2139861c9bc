"""What can be made of gates, and what can't: points [17] and [18] of the document."""

from gatekin.build import build, makes_all
from gatekin.gates import input_tables, row_count
from gatekin.relations import closed, gathered
from gatekin.ways import way_circuit, ways


def tables_made(gates, inputs):
    return closed((row_count(inputs), tuple(input_tables(inputs))), gates)[1]


def made(gates, wish):
    inputs = wish[0]
    if inputs > 0 and makes_all(gates):
        return ("made", build(gates, wish))
    found = ways(gates, inputs)
    if wish[1] in found:
        return ("made", way_circuit(found, wish[1], inputs))
    # All that can be made is kept by each gate; the wish, put to the inputs' tables, gives its own, which isn't there.
    return ("cant", gathered(row_count(inputs), list(found)), input_tables(inputs))
