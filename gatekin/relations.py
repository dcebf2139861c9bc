"""Relations and the gates that keep them: points [12], [13] and [14] of the document.

A relation is a tuple (width, rows), rows a rising tuple; column j of a row is its bit j.
"""

from gatekin.errors import NoRelation, TooMany
from gatekin.gates import is_below, put_all, row_count

MOST_WIDTH = 16
MOST_ROWS = 256
MOST_CLOSED_ROWS = 128
MOST_LISTS = 20000


def gathered(width, rows):
    return (width, tuple(sorted(set(rows))))


def relation(width, rows):
    # The width is bounded ahead of the rows: the count of a great one's rows could not be reckoned.
    if not is_below(width, MOST_WIDTH + 1):
        raise NoRelation("a relation's width is from 0 to 16")
    limit = row_count(width)
    if not all([is_below(row, limit) for row in rows]):
        raise NoRelation("a relation's rows have no columns beyond its width")
    told = gathered(width, rows)
    if len(told[1]) > MOST_ROWS:
        raise NoRelation("a relation has at most 256 rows")
    return told


def marked(rows):
    marks = {}
    for row in rows:
        marks[row] = True
    return marks


def put_rows(gate, rows, width):
    return put_all(gate, rows, row_count(width) - 1)


def power(base, exponent):
    product = 1
    for j in range(exponent):
        product = base * product
    return product


def list_count(count, gates):
    return sum([power(count, gate[0]) for gate in gates])


# The last place is filled last, so it changes the soonest: where the choices rise, the lists come as lists are ordered.
def lists_of(choices):
    lists = [[]]
    for rows in choices:
        longer = []
        for chosen in lists:
            for row in rows:
                longer.append(chosen + [row])
        lists = longer
    return lists


def broken(gate, relation):
    width = relation[0]
    rows = relation[1]
    if list_count(len(rows), [gate]) > MOST_LISTS:
        raise TooMany("the gate can be put to more than 20,000 lists of rows")
    marks = marked(rows)
    for chosen in lists_of([rows] * gate[0]):
        if put_rows(gate, chosen, width) not in marks:
            return chosen
    return None


def keeps(gate, relation):
    return broken(gate, relation) is None


# Told by the place of its first fresh row, each list that has one is told once.
def fresh_lists(old, fresh, length):
    lists = []
    for place in range(length):
        lists.extend(lists_of([old] * place + [fresh] + [old + fresh] * (length - place - 1)))
    return lists


def given_rows(gates, old, fresh, width):
    rows = []
    for gate in gates:
        for chosen in fresh_lists(old, fresh, gate[0]):
            rows.append(put_rows(gate, chosen, width))
    return rows


# The count only grows while rows are gathered, so what is refused on the way would be refused in the end.
def refuse_too_many(count, gates):
    if count > MOST_CLOSED_ROWS or list_count(count, gates) > MOST_LISTS:
        raise TooMany("there would be more than 128 rows, or more than 20,000 lists of them")


def closed(relation, gates):
    width = relation[0]
    # A constant is put to no rows, so none of the fresh ones would ever call for it.
    constants = [put_rows(gate, [], width) for gate in gates if gate[0] == 0]
    old = []
    fresh = sorted(set(list(relation[1]) + constants))
    while len(fresh) > 0:
        refuse_too_many(len(old) + len(fresh), gates)
        given = given_rows(gates, old, fresh, width)
        old = old + fresh
        fresh = sorted(set(given) - set(old))
    return gathered(width, old)
