"""A desk that keeps sets of gates and relations by names, and answers rows: point [29] of the document."""

from gatekin.build import build
from gatekin.errors import NoName, NoRow, NoText
from gatekin.keepers import made_of
from gatekin.kinds import KINDS, first_breach, kinds
from gatekin.made import made
from gatekin.prices import least_tree
from gatekin.relations import closed
from gatekin.sets import least_part, same
from gatekin.texts import circuit_text, gate_text, read_gate, read_relation, read_set, relation_text, row_text, set_text
from gatekin.trees import tree_size

LETTERS = "abcdefghijklmnopqrstuvwxyz"
LONGEST_NAME = 8

# What stands behind a row's first word: a name for what comes of the row, names of what must stand, gates, texts.
ROWS = {
    "set": ("new", "set text"),
    "relation": ("new", "relation text"),
    "show": ("set",),
    "table": ("relation",),
    "made": ("set", "small gate"),
    "build": ("set", "gate with inputs"),
    "kinds": ("set",),
    "least": ("set", "small gate"),
    "keeps": ("set", "relation"),
    "closed": ("new", "set", "relation"),
    "part": ("new", "set"),
    "same": ("set", "set"),
    "of": ("relation", "relation"),
}

TEXTS = ("set text", "relation text")

# The fewest and the most inputs.
GATES = {"small gate": (0, 3), "gate with inputs": (1, 4)}

# The shelf on which stands what comes of the row.
SHELVES = {"set": "set", "part": "set", "relation": "relation", "closed": "relation"}


def is_name(word):
    return 1 <= len(word) <= LONGEST_NAME and all([sign in LETTERS for sign in word])


def fits(field, word):
    if field in TEXTS:
        return True
    return word != "" if field in GATES else is_name(word)


def row_fields(row):
    first = row.partition(" ")[0] if isinstance(row, str) else None
    if first not in ROWS:
        raise NoRow("no row begins so")
    return ROWS[first]


def row_words(row, fields):
    # Blanks within a text part no words.
    words = row.split(" ", len(fields)) if fields[-1] in TEXTS else row.split(" ")
    if len(words) != len(fields) + 1:
        raise NoRow("the row has too few words or too many")
    if not all([fits(field, word) for field, word in zip(fields, words[1:])]):
        raise NoRow("a word has no signs, or a name is none")
    return words


def read_bounded(text, bounds):
    gate = read_gate(text)
    if not bounds[0] <= gate[0] <= bounds[1]:
        raise NoText("the gate has more or fewer inputs than the row lets")
    return gate


def made_answer(gates, wish):
    told = made(gates, wish)
    if told[0] == "made":
        return "made " + circuit_text(told[1])
    rows = " ".join([row_text(row, told[1][0]) for row in told[2]])
    return "cant " + relation_text(told[1]) + " by " + rows


def kinds_answer(gates):
    kept = [name for name, breach in zip(KINDS, kinds(gates)) if breach is None]
    return "none" if len(kept) == 0 else " ".join(kept)


def keeps_answer(gates, relation):
    breach = first_breach(gates, relation)
    return "yes" if breach is None else "no " + str(breach[0])


def of_answer(wish, relation):
    told = made_of([relation], wish)
    return "yes" if told[0] == "made" else "no " + gate_text(told[1])


def staying_gates(gates):
    return [gates[told[0]] for told in least_part(gates)[0]]


def answer(first, things):
    one = things[0]
    other = things[-1]
    if first == "show":
        return set_text(one)
    if first == "table":
        return relation_text(one)
    if first == "made":
        return made_answer(one, other)
    if first == "build":
        return circuit_text(build(one, other))
    if first == "kinds":
        return kinds_answer(one)
    if first == "least":
        return str(tree_size(least_tree(one, other)))
    if first == "keeps":
        return keeps_answer(one, other)
    if first == "same":
        return "yes" if same(one, other)[0] == "same" else "no"
    return of_answer(one, other)


def kept_thing(first, things):
    if first == "part":
        return staying_gates(things[1])
    if first == "closed":
        return closed(things[2], things[1])
    return things[1]


class Desk:
    def __init__(self):
        self.shelves = {"set": {}, "relation": {}}

    def refuse_missing(self, fields, words):
        for field, word in zip(fields, words):
            if field in self.shelves and word not in self.shelves[field]:
                raise NoName(word)

    def thing(self, field, word):
        if field in self.shelves:
            return self.shelves[field][word]
        if field in GATES:
            return read_bounded(word, GATES[field])
        if field == "set text":
            return read_set(word)
        return read_relation(word) if field == "relation text" else word

    def say(self, row):
        fields = row_fields(row)
        words = row_words(row, fields)
        first = words[0]
        self.refuse_missing(fields, words[1:])
        things = [self.thing(field, word) for field, word in zip(fields, words[1:])]
        if first not in SHELVES:
            return answer(first, things)
        # Reckoned ahead of its being kept: so what is refused changes nothing.
        kept = kept_thing(first, things)
        shelf = self.shelves[SHELVES[first]]
        shelf[things[0]] = kept
        return "ok"
