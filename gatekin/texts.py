"""Gates, relations, circuits and sets of gates as texts: point [28] of the document."""

from gatekin.circuits import MOST_STEPS
from gatekin.errors import NoText
from gatekin.gates import MOST_INPUTS, bit, is_below, number_of, row_count
from gatekin.relations import MOST_ROWS, MOST_WIDTH, gathered

MOST_IN_SET = 6


def figures_text(number, count):
    return "".join([str(bit(number, place)) for place in range(count)])


def gate_text(gate):
    inputs = gate[0]
    figures = figures_text(gate[1], row_count(inputs))
    return f"{inputs}:{figures}"


def row_text(row, width):
    return "-" if width == 0 else figures_text(row, width)


def relation_text(relation):
    width = relation[0]
    return " ".join([f"{width}:"] + [row_text(row, width) for row in relation[1]])


def step_text(step):
    return " ".join([gate_text(step[0])] + [str(wire) for wire in step[1]])


def circuit_text(circuit):
    out = circuit[2]
    return "; ".join([str(circuit[0])] + [step_text(step) for step in circuit[1]] + [f"> {out}"])


def set_text(gates):
    return " ".join([gate_text(gate) for gate in gates])


def refuse_no_text(thing):
    if not isinstance(thing, str):
        raise NoText("this is no text")


def read_number(text, bound):
    try:
        number = int(text)
    except ValueError:
        raise NoText("a number is written by figures alone")
    # int takes blanks, signs, leading zeros and other alphabets' figures too: none of them is written again so.
    if not is_below(number, bound) or str(number) != text:
        raise NoText("a number is out of its bounds, or not written as numbers are")
    return number


def read_figures(text, count):
    if len(text) != count or not all([sign in "01" for sign in text]):
        raise NoText("there are to be so many figures 0 and 1, and no others")
    return number_of([int(sign) for sign in text])


def parted(text):
    pieces = text.split(":")
    if len(pieces) != 2:
        raise NoText("there is to be one : behind the number")
    return pieces


def read_gate(text):
    refuse_no_text(text)
    pieces = parted(text)
    inputs = read_number(pieces[0], MOST_INPUTS + 1)
    return (inputs, read_figures(pieces[1], row_count(inputs)))


def read_row(text, width):
    if width > 0:
        return read_figures(text, width)
    if text != "-":
        raise NoText("a row without columns is written as -")
    return 0


def read_relation(text):
    refuse_no_text(text)
    pieces = parted(text)
    width = read_number(pieces[0], MOST_WIDTH + 1)
    words = pieces[1].split(" ")
    if words[0] != "":
        raise NoText("each row has a blank ahead")
    rows = [read_row(word, width) for word in words[1:]]
    told = gathered(width, rows)
    if list(told[1]) != rows or len(rows) > MOST_ROWS:
        raise NoText("the rows rise, and are at most 256")
    return told


def read_step(text, bound):
    words = text.split(" ")
    gate = read_gate(words[0])
    ends = [read_number(word, bound) for word in words[1:]]
    if len(ends) != gate[0]:
        raise NoText("a step has as many wires as its gate has inputs")
    return (gate, tuple(ends))


def read_circuit(text):
    refuse_no_text(text)
    pieces = text.split("; ")
    inputs = read_number(pieces[0], MOST_INPUTS + 1)
    inner = pieces[1:-1]
    last = pieces[-1].split(" ")
    if len(last) != 2 or last[0] != ">" or len(inner) > MOST_STEPS:
        raise NoText("a circuit has at most 600 steps, and its out behind them")
    steps = [read_step(piece, inputs + s) for s, piece in enumerate(inner)]
    return (inputs, tuple(steps), read_number(last[1], inputs + len(steps)))


def read_set(text):
    refuse_no_text(text)
    words = [] if text == "" else text.split(" ")
    if len(words) > MOST_IN_SET:
        raise NoText("a set has at most six gates")
    return [read_gate(word) for word in words]
