"""The least part of a set, and sets that make the same: points [26] and [27] of the document."""

from gatekin.errors import TooMany
from gatekin.made import made

MOST_SET_INPUTS = 3


def refuse_four_inputs(gates):
    if any([gate[0] > MOST_SET_INPUTS for gate in gates]):
        raise TooMany("a gate of the set has more than three inputs")


def made_without(gates, numbers, number):
    return made([gates[k] for k in numbers if k != number], gates[number])


def staying(gates):
    numbers = list(range(len(gates)))
    for number in range(len(gates) - 1, -1, -1):
        if made_without(gates, numbers, number)[0] == "made":
            numbers.remove(number)
    return numbers


# All are asked again of the gates that stay: a gate may have been left out, or have stayed, beside gates that were left
# out only later. Nothing is refused now that wasn't before, since those that stay are of the gates asked then.
def least_part(gates):
    refuse_four_inputs(gates)
    numbers = staying(gates)
    stay = []
    out = []
    for number in range(len(gates)):
        told = made_without(gates, numbers, number)
        if number in numbers:
            stay.append((number, told[1], told[2]))
        else:
            out.append((number, told[1]))
    return (stay, out)


def same(one, other):
    refuse_four_inputs(one + other)
    told = []
    for which, wishes in enumerate([one, other]):
        circuits = []
        for number, wish in enumerate(wishes):
            answer = made([other, one][which], wish)
            if answer[0] == "cant":
                return ("unlike", which, number, answer[1], answer[2])
            circuits.append(answer[1])
        told.append(circuits)
    return ("same", told[0], told[1])
