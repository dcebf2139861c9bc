"""The gates that keep relations, and relations made of relations: points [24] and [25] of the document.

A gate's bits are here a row of 2 ** inputs columns. What the gate gives of some rows of a relation is picked of it: the
values that a column has in these rows tell where. So the gates that keep relations are the rows of a formula.
"""

from gatekin.errors import TooMany
from gatekin.formulas import picked_row, relation_of
from gatekin.gates import bit, number_of, row_count
from gatekin.relations import lists_of, power

MOST_COLUMNS = 4
MOST_KEPT_LISTS = 64
MOST_WISHED_COLUMNS = 8
MOST_WISHED_ROWS = 3


def place(rows, column):
    return number_of([bit(row, column) for row in rows])


def places(rows, width):
    return tuple([place(rows, column) for column in range(width)])


def refuse_great(relations, inputs):
    for given in relations:
        if given[0] > MOST_COLUMNS or power(len(given[1]), inputs) > MOST_KEPT_LISTS:
            raise TooMany("a relation has more than four columns, or more than 64 lists of rows")


def keeping_parts(relations, inputs):
    parts = []
    for given in relations:
        for chosen in lists_of([given[1]] * inputs):
            parts.append((given, places(chosen, given[0])))
    return tuple(parts)


def keepers(relations, inputs):
    refuse_great(relations, inputs)
    width = row_count(inputs)
    return relation_of((width, keeping_parts(relations, inputs), tuple(range(width))))[1]


# The formula of the keepers, with the columns at which they are put to the wished rows: its rows are what the keepers
# give of these. The wished rows are among them, since each input by itself is a keeper.
def made_of(relations, wish):
    rows = list(wish[1])
    inputs = len(rows)
    if wish[0] > MOST_WISHED_COLUMNS or inputs > MOST_WISHED_ROWS:
        raise TooMany("the wished relation has more than eight columns or three rows")
    columns = places(rows, wish[0])
    for bits in keepers(relations, inputs):
        if picked_row(bits, columns) not in rows:
            return ("cant", (inputs, bits), rows)
    return ("made", (row_count(inputs), keeping_parts(relations, inputs), columns))
