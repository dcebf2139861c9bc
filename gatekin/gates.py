"""Gates and tables: points [4], [5] and [6] of the document.

A gate is a tuple (inputs, bits). A table is a whole number; the value in row r is its bit r.
"""

MOST_INPUTS = 4


def is_whole(thing):
    # Python counts True and False as ints; here they are no whole numbers.
    return isinstance(thing, int) and not isinstance(thing, bool)


def is_below(thing, bound):
    return is_whole(thing) and 0 <= thing < bound


def is_tuple(thing, length):
    return isinstance(thing, tuple) and len(thing) == length


def row_count(inputs):
    count = 1
    for j in range(inputs):
        count = 2 * count
    return count


def table_limit(inputs):
    # One input more doubles the rows, and so squares the count of tables.
    limit = 2
    for j in range(inputs):
        limit = limit * limit
    return limit


def full_table(inputs):
    return table_limit(inputs) - 1


def is_gate(thing):
    # The inputs are bounded ahead of the bits: the limit of great ones could not be reckoned.
    return (
        is_tuple(thing, 2)
        and is_below(thing[0], MOST_INPUTS + 1)
        and is_below(thing[1], table_limit(thing[0]))
    )


def bit(number, place):
    return (number >> place) & 1


def number_of(figures):
    # The last figure weighs the most, so it is taken first and doubled the most often.
    number = 0
    for figure in reversed(figures):
        number = 2 * number + figure
    return number


def value(gate, values):
    return bit(gate[1], number_of(values))


def input_table(inputs, j):
    return number_of([bit(row, j) for row in range(row_count(inputs))])


def input_tables(inputs):
    return [input_table(inputs, j) for j in range(inputs)]


# All rows at once: the places of an input's two values lie side by side, so each input halves the list of the given.
def put_all(gate, numbers, full):
    given = [full * bit(gate[1], place) for place in range(row_count(gate[0]))]
    for number in numbers:
        given = [(given[k] & ~number) | (given[k + 1] & number) for k in range(0, len(given), 2)]
    return given[0]


def put(gate, tables, inputs):
    return put_all(gate, tables, full_table(inputs))


# Below, a changed gate is the gate put to changed tables of its inputs: by [5] its bits are that table.


def turned(gate):
    inputs = gate[0]
    full = full_table(inputs)
    exchanged = [full - table for table in input_tables(inputs)]
    return (inputs, full - put(gate, exchanged, inputs))


def with_set(gate, j, w):
    inputs = gate[0] - 1
    tables = input_tables(inputs)
    tables.insert(j, full_table(inputs) if w == 1 else 0)
    return (inputs, put(gate, tables, inputs))


def matters(gate):
    return [j for j in range(gate[0]) if with_set(gate, j, 0) != with_set(gate, j, 1)]


def in_order(gate, order):
    inputs = gate[0]
    tables = [0] * inputs
    for i, place in enumerate(order):
        tables[place] = input_table(inputs, i)
    return (inputs, put(gate, tables, inputs))
