"""The five kinds: point [19] of the document, and the end of [20]."""

from gatekin.relations import broken

KINDS = ("low", "high", "turn", "rise", "even")

RELATIONS = {
    "low": (1, (0,)),
    "high": (1, (1,)),
    "turn": (2, (1, 2)),
    "rise": (2, (0, 2, 3)),
    "even": (4, (0, 3, 5, 6, 9, 10, 12, 15)),
}

OUTSIDERS = {"low": (1, 1), "high": (1, 1), "turn": (2, 8), "rise": (1, 1), "even": (2, 8)}


def kind(name):
    return RELATIONS[name]


def first_breach(gates, relation):
    for number, gate in enumerate(gates):
        rows = broken(gate, relation)
        if rows is not None:
            return (number, rows)
    return None


def kinds(gates):
    return [first_breach(gates, kind(name)) for name in KINDS]


def outsider(name):
    return OUTSIDERS[name]
