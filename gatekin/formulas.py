"""Formulas, and relations made of relations: points [15] and [16] of the document.

A formula is a tuple (width, parts, columns), a part a tuple (relation, picks).
"""

from gatekin.errors import NoRelation
from gatekin.gates import bit, number_of, row_count
from gatekin.relations import MOST_ROWS, gathered, marked


def picked_row(row, columns):
    return number_of([bit(row, column) for column in columns])


def picked(relation, columns):
    return gathered(len(columns), [picked_row(row, columns) for row in relation[1]])


def rows_with_part(rows, part):
    marks = marked(part[0][1])
    return [row for row in rows if picked_row(row, part[1]) in marks]


def relation_of(formula):
    rows = list(range(row_count(formula[0])))
    for part in formula[1]:
        rows = rows_with_part(rows, part)
    return picked((formula[0], tuple(rows)), formula[2])


def both(one, other):
    marks = marked(other[1])
    return gathered(one[0], [row for row in one[1] if row in marks])


def beside(one, other):
    if len(one[1]) * len(other[1]) > MOST_ROWS:
        raise NoRelation("beside one another, the two would have more than 256 rows")
    shift = row_count(one[0])
    rows = []
    for first in one[1]:
        for second in other[1]:
            rows.append(first + shift * second)
    return gathered(one[0] + other[0], rows)
