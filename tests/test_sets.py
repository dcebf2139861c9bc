import random
import unittest
from functools import lru_cache
from itertools import combinations_with_replacement, permutations
from unittest import mock

from gatekin.errors import TooMany
from gatekin.made import made
from gatekin.sets import least_part, same
from tests.checks import Checks, tables_of
from tests.plain import drawn_gate, kinds_within
from tests.test_build import kept_kinds

LOW, HIGH, NOT, SAME = (0, 0), (0, 1), (1, 1), (1, 2)
AND, OR, XOR, NAND = (2, 8), (2, 14), (2, 6), (2, 7)
IMPLIES, EVEN_TWO, BUT_NOT = (2, 13), (2, 9), (2, 2)
CHOICE, MOST_OF_THREE, PARITY, TEN = (3, 202), (3, 232), (3, 150), (3, 168)
SMALL = [LOW, HIGH, NOT, SAME, AND, OR, XOR, NAND, IMPLIES, EVEN_TWO, BUT_NOT]
# Sets that make all, and sets of which too much could be made for a wish of three inputs.
FULL = [[NAND], [AND, NOT], [XOR, AND, HIGH], [CHOICE, LOW, HIGH], [MOST_OF_THREE, NOT, LOW]]
GREAT = [[AND, XOR], [CHOICE], [EVEN_TWO, OR], [PARITY, AND]]


@lru_cache(None)
def can_make(gates, wish):
    """True, False, or None where it is refused."""
    if wish[0] > 0 and not kept_kinds(gates):
        return True
    tables = tables_of(gates, wish[0])
    return None if tables is None else wish[1] in tables


def plain_part(gates):
    """The numbers that stay, or None where it is refused."""
    left = list(range(len(gates)))
    for number in reversed(range(len(gates))):
        rest = [k for k in left if k != number]
        told = can_make(tuple(gates[k] for k in rest), gates[number])
        if told is None:
            return None
        if told:
            left = rest
    return left


def plain_same(one, other):
    """None where it is refused, True, or (which, number)."""
    for which, (wishes, gates) in enumerate([(one, other), (other, one)]):
        for number, wish in enumerate(wishes):
            told = can_make(tuple(gates), wish)
            if told is None:
                return None
            if not told:
                return (which, number)
    return True


def drawn_sets(draw, count, small):
    """Few gates of three inputs, since of these too much can be made the soonest."""
    for again in range(count):
        most = 2 if again % small else 3
        yield [drawn_gate(draw, most) for number in range(draw.randrange(7))]


class LeastPart(Checks):
    def assert_part(self, gates):
        kept = list(gates)
        expected = plain_part(gates)
        if expected is None:
            self.assertRaises(TooMany, least_part, gates)
        else:
            told = least_part(gates)
            self.assert_told(told, gates, expected)
        self.assertEqual(gates, kept)
        return expected

    def assert_told(self, told, gates, expected):
        self.assertIs(type(told), tuple)
        self.assertLessEqual(kinds_within(told), {tuple, list, int})
        stay, out = told
        self.assertIs(type(stay), list)
        self.assertIs(type(out), list)
        self.assertEqual([number for number, relation, rows in stay], expected)
        self.assertEqual([number for number, circuit in out], [k for k in range(len(gates)) if k not in expected])
        for number, relation, rows in stay:
            others = [gates[k] for k in expected if k != number]
            self.assert_breach(relation, rows, others, gates[number])
        for number, circuit in out:
            self.assert_circuit(circuit, [gates[k] for k in expected], gates[number])

    def test_examples(self):
        self.assertEqual(self.assert_part([AND, OR]), [0, 1])
        self.assertEqual(self.assert_part([AND, NOT, OR]), [0, 1])
        self.assertEqual(self.assert_part([OR, AND, NOT]), [0, 2])
        self.assertEqual(self.assert_part([NAND, AND, OR, NOT, XOR]), [0])
        self.assertEqual(self.assert_part([AND, OR, NOT, XOR, NAND]), [0, 2])
        self.assertEqual(self.assert_part([SAME]), [])
        self.assertEqual(least_part([SAME, (2, 10)]), ([], [(0, (1, (), 0)), (1, (2, (), 0))]))
        self.assertEqual(least_part([AND])[0][0][0], 0)

    def test_without_gates(self):
        self.assertEqual(least_part([]), ([], []))

    def test_alike_gates(self):
        self.assertEqual(self.assert_part([AND, AND]), [0])
        self.assertEqual(self.assert_part([AND] * 6), [0])
        self.assertEqual(self.assert_part([OR, AND, OR, AND, OR, AND]), [0, 1])
        self.assertEqual(self.assert_part([NAND, NAND, NAND]), [0])
        self.assertEqual(self.assert_part([LOW, LOW, HIGH, HIGH]), [0, 2])
        self.assertEqual(self.assert_part([SAME, SAME]), [])
        self.assertEqual(self.assert_part([MOST_OF_THREE, MOST_OF_THREE]), [0])

    def test_constants(self):
        self.assertEqual(self.assert_part([LOW]), [0])
        self.assertEqual(self.assert_part([LOW, NOT, HIGH]), [0, 1])
        self.assertEqual(self.assert_part([HIGH, NOT, LOW]), [0, 1])
        self.assertEqual(self.assert_part([NOT, HIGH, LOW]), [0, 1])
        # Both inputs of a gate without inputs lack: of NAND alone no constant is made.
        self.assertEqual(self.assert_part([NAND, LOW, HIGH]), [0, 1])
        self.assertEqual(self.assert_part([LOW, (1, 0)]), [0])
        self.assertEqual(self.assert_part([(1, 0), LOW]), [1])
        self.assertEqual(least_part([LOW])[0], [(0, (1, ()), [])])

    def test_the_last_ones_are_left_out_first(self):
        for gates in permutations([AND, OR, NOT]):
            expected = self.assert_part(list(gates))
            # NOT stays whatever the order, and of the others the one that stands first.
            self.assertEqual(expected, sorted([gates.index(NOT), 0 if gates[0] != NOT else 1]))

    def test_a_gate_is_asked_without_those_left_out_behind_it(self):
        self.assertEqual(self.assert_part([XOR, HIGH, EVEN_TWO]), [0, 1])
        self.assertEqual(self.assert_part([EVEN_TWO, XOR, NOT]), [0, 1])
        self.assertEqual(self.assert_part([NOT, EVEN_TWO, XOR]), [0, 1])
        self.assertEqual(self.assert_part([SAME, NOT, NOT]), [1])

    def test_one_stays_beside_one_that_is_left_out_later(self):
        # NOT can't be made of AND, XOR and LOW; with it XOR is left out, and all are told of AND, NOT and LOW alone.
        gates = [LOW, XOR, AND, NOT]
        self.assertEqual(self.assert_part(gates), [0, 2, 3])
        stay, out = least_part(gates)
        self.assertEqual([number for number, circuit in out], [1])

    def test_all_sets_of_two_and_three_small_gates(self):
        for gates in combinations_with_replacement(SMALL, 2):
            self.assert_part(list(gates))
            self.assert_part(list(gates)[::-1])
        for gates in combinations_with_replacement(SMALL, 3):
            self.assert_part(list(gates))

    def test_drawn_sets(self):
        draw = random.Random(60)
        for again in range(150):
            self.assert_part([draw.choice(SMALL) for number in range(draw.randrange(3, 7))])
        told = [self.assert_part(gates) for gates in drawn_sets(draw, 60, 4)]
        self.assertGreater(len([part for part in told if part and len(part) > 1]), 8)

    def test_three_inputs(self):
        for gates in ([MOST_OF_THREE], [MOST_OF_THREE, NOT], [MOST_OF_THREE, AND], [AND, OR, MOST_OF_THREE],
                      [PARITY, NOT], [XOR, PARITY], [PARITY, XOR], [TEN, AND], [AND, TEN], [TEN, OR, AND],
                      [(3, 128), AND, (3, 254)], [LOW, MOST_OF_THREE, HIGH], [PARITY, (3, 105)], [BUT_NOT, (3, 2)]):
            self.assertIsNotNone(self.assert_part(gates))

    def test_sets_that_make_all(self):
        for gates in FULL:
            for more in ([], [PARITY], [CHOICE, MOST_OF_THREE], [TEN, PARITY, CHOICE]):
                self.assert_part(gates + more)
                self.assert_part(more + gates)

    def test_refused_as_the_askings_are(self):
        for gates in GREAT:
            self.assertRaises(TooMany, made, gates, MOST_OF_THREE)
            self.assertIsNone(self.assert_part(gates + [MOST_OF_THREE]))
            self.assertIsNone(self.assert_part(gates + [TEN, SAME]))
        # Nothing is too much where the wishes have two inputs, or where all is made.
        self.assertEqual(self.assert_part([AND, XOR, BUT_NOT]), [0, 1])
        self.assertEqual(self.assert_part([NAND, CHOICE, PARITY]), [0])

    def test_refused_at_the_last_asking_alone(self):
        self.assertIs(can_make((PARITY, XOR), AND), False)
        self.assertIs(can_make((PARITY, AND), XOR), False)
        self.assertIsNone(can_make((XOR, AND), PARITY))
        self.assertIsNone(self.assert_part([PARITY, XOR, AND]))
        self.assertIsNone(self.assert_part([PARITY, XOR, SAME, AND, AND]))

    def test_asked_in_its_order_till_one_is_refused(self):
        gates = [AND, XOR, MOST_OF_THREE, OR, LOW]
        asked = []

        def note(others, wish):
            asked.append((list(others), wish))
            return made(others, wish)

        with mock.patch("gatekin.sets.made", note):
            self.assertRaises(TooMany, least_part, gates)
        self.assertEqual(asked,
                         [(gates[:4], LOW), ([AND, XOR, MOST_OF_THREE, LOW], OR), ([AND, XOR, LOW], MOST_OF_THREE)])

    def test_a_gate_of_four_inputs(self):
        for bits in (0, 27030, 32768, 43690, 65535):
            for gates in ([(4, bits)], [(4, bits), NAND], [NAND, (4, bits)], [AND, (4, bits), OR],
                          [AND] * 5 + [(4, bits)]):
                kept = list(gates)
                self.assertRaises(TooMany, least_part, gates)
                self.assertEqual(gates, kept)

    def test_four_inputs_are_refused_ahead_of_the_askings(self):
        with mock.patch("gatekin.sets.made") as asked:
            self.assertRaises(TooMany, least_part, [(4, 0), AND, NOT])
            self.assertRaises(TooMany, same, [NOT], [AND, (4, 0)])
            self.assertRaises(TooMany, same, [AND, (4, 0)], [NOT])
        asked.assert_not_called()

    def test_what_is_told_is_the_askers_own(self):
        gates = [AND, OR, SAME]
        told = least_part(gates)
        again = least_part(gates)
        kept = repr(again)
        told[0][0][2].append(99)
        told[0].append(None)
        told[1].clear()
        gates.append(NAND)
        self.assertEqual(repr(again), kept)
        self.assertEqual(repr(least_part([AND, OR, SAME])), kept)


class SameMade(Checks):
    def assert_same(self, one, other):
        kept = (list(one), list(other))
        expected = plain_same(one, other)
        if expected is None:
            self.assertRaises(TooMany, same, one, other)
        else:
            told = same(one, other)
            self.assertIs(type(told), tuple)
            if expected is True:
                self.assert_circuits(told, one, other)
            else:
                self.assert_unlike(told, one, other, expected)
        self.assertEqual((one, other), kept)
        return expected

    def assert_circuits(self, told, one, other):
        self.assertEqual((told[0], len(told)), ("same", 3))
        for circuits, wishes, gates in ((told[1], one, other), (told[2], other, one)):
            self.assertIs(type(circuits), list)
            self.assertEqual(len(circuits), len(wishes))
            for circuit, wish in zip(circuits, wishes):
                self.assert_circuit(circuit, gates, wish)

    def assert_unlike(self, told, one, other, expected):
        self.assertEqual((told[0], len(told)), ("unlike", 5))
        self.assertEqual(told[1:3], expected)
        self.assertIs(type(told[1]), int)
        wishes, gates = ((one, other), (other, one))[told[1]]
        self.assert_breach(told[3], told[4], gates, wishes[told[2]])

    def test_examples(self):
        self.assertIs(self.assert_same([NAND], [AND, NOT]), True)
        self.assertIs(self.assert_same([XOR, HIGH], [NOT, XOR, HIGH]), True)
        self.assertEqual(self.assert_same([AND, OR], [AND]), (0, 1))
        self.assertEqual(self.assert_same([AND], [AND, OR]), (1, 1))
        self.assertEqual(self.assert_same([AND, OR], [OR]), (0, 0))
        self.assertEqual(self.assert_same([XOR], [EVEN_TWO]), (0, 0))
        self.assertEqual(same([AND], [AND, OR]), ("unlike", 1, 1, (4, (8, 10, 12)), [10, 12]))
        self.assertEqual(same([SAME], [(2, 12)]), ("same", [(1, (), 0)], [(2, (), 1)]))

    def test_without_gates(self):
        self.assertEqual(same([], []), ("same", [], []))
        self.assertEqual(same([SAME], []), ("same", [(1, (), 0)], []))
        self.assertEqual(same([], [SAME, (3, 240)]), ("same", [], [(1, (), 0), (3, (), 2)]))
        self.assertEqual(self.assert_same([], [AND]), (1, 0))
        self.assertEqual(self.assert_same([AND], []), (0, 0))
        self.assertEqual(self.assert_same([], [SAME, LOW]), (1, 1))
        self.assertEqual(same([], [LOW]), ("unlike", 1, 0, (1, ()), []))

    def test_the_one_set_ahead_of_the_other(self):
        self.assertEqual(self.assert_same([AND], [OR]), (0, 0))
        self.assertEqual(self.assert_same([SAME, AND, NOT], [SAME, OR]), (0, 1))
        self.assertEqual(self.assert_same([SAME, LOW], [LOW, NOT, HIGH]), (1, 1))

    def test_constants(self):
        self.assertEqual(self.assert_same([NAND], [NAND, LOW]), (1, 1))
        self.assertEqual(self.assert_same([NAND, LOW], [NAND]), (0, 1))
        self.assertIs(self.assert_same([NAND, LOW], [HIGH, NAND]), True)
        self.assertEqual(self.assert_same([LOW], [(1, 0)]), (0, 0))
        self.assertEqual(self.assert_same([(1, 0)], [LOW]), (1, 0))

    def test_alike_gates(self):
        self.assertIs(self.assert_same([AND, AND, AND], [AND]), True)
        self.assertEqual(self.assert_same([AND, AND, OR, OR], [AND, AND]), (0, 2))

    def test_all_of_one_or_two_small_gates(self):
        sets = [[]] + [[gate] for gate in SMALL] + [list(two) for two in combinations_with_replacement(SMALL, 2)][::3]
        for one in sets:
            for other in sets:
                self.assert_same(one, other)

    def test_with_itself_and_in_another_order(self):
        draw = random.Random(61)
        for gates in drawn_sets(draw, 24, 6):
            self.assertIn(self.assert_same(gates, gates), (True, None))
            self.assert_same(gates, gates[::-1])

    def test_drawn_sets(self):
        draw = random.Random(62)
        count = 0
        for one in drawn_sets(draw, 60, 6):
            other = [draw.choice(one + SMALL) for number in range(draw.randrange(1, 7))]
            count += self.assert_same(one, other) is True
        self.assertGreater(count, 5)

    def test_three_inputs(self):
        self.assertIs(self.assert_same([MOST_OF_THREE, LOW, HIGH], [AND, OR, LOW, HIGH]), True)
        self.assertEqual(self.assert_same([PARITY, LOW], [XOR]), (0, 1))
        self.assertIs(self.assert_same([XOR, LOW], [PARITY, LOW]), True)
        self.assertEqual(self.assert_same([MOST_OF_THREE], [AND, OR]), (1, 0))
        self.assertEqual(self.assert_same([TEN], [AND, OR]), (1, 1))
        self.assertEqual(self.assert_same([CHOICE, LOW, HIGH], [NAND]), (0, 1))

    def test_both_make_all(self):
        for one in FULL:
            for other in FULL:
                self.assert_same(one, other)
                self.assertIs(self.assert_same(one + [LOW, HIGH], other + [LOW, HIGH]), True)

    def test_asked_till_one_cant_be_made(self):
        for gates in GREAT:
            self.assertRaises(TooMany, made, gates, MOST_OF_THREE)
            self.assertIsNone(self.assert_same([MOST_OF_THREE], gates))
            self.assertIsNone(self.assert_same([MOST_OF_THREE, NOT, LOW], gates))
        # AND and XOR can't make HIGH: so the gate behind it is never asked for.
        self.assertEqual(self.assert_same([HIGH, MOST_OF_THREE], [AND, XOR]), (0, 0))
        self.assertIsNone(self.assert_same([MOST_OF_THREE, HIGH], [AND, XOR]))
        self.assertEqual(self.assert_same([AND, XOR], [LOW, MOST_OF_THREE]), (0, 1))

    def test_refused_at_the_other_set_alone(self):
        self.assertIsNone(self.assert_same([AND, XOR], [XOR, AND, MOST_OF_THREE]))
        self.assertEqual(self.assert_same([AND, XOR], [XOR, AND, HIGH, MOST_OF_THREE]), (1, 2))

    def test_asked_in_its_order(self):
        asked = []

        def note(others, wish):
            asked.append((list(others), wish))
            return made(others, wish)

        with mock.patch("gatekin.sets.made", note):
            same([AND, OR], [OR, AND, NOT, XOR])
        two, four = [AND, OR], [OR, AND, NOT, XOR]
        self.assertEqual(asked, [(four, AND), (four, OR), (two, OR), (two, AND), (two, NOT)])

    def test_a_gate_of_four_inputs(self):
        for bits in (0, 27030, 43690, 65535):
            for gates in ([(4, bits)], [AND, (4, bits)], [(4, bits), NOT]):
                for other in ([], [AND], [NAND], [(4, bits)]):
                    self.assertRaises(TooMany, same, gates, other)
                    self.assertRaises(TooMany, same, other, gates)

    def test_what_is_told_is_the_askers_own(self):
        one, other = [NAND], [AND, NOT]
        told = same(one, other)
        again = repr(same(one, other))
        told[1].append(3)
        told[2].clear()
        one.append(LOW)
        self.assertEqual(repr(same([NAND], [AND, NOT])), again)
        unlike = same([AND], [OR])
        kept = repr(unlike)
        same([AND], [OR])[4].append(1)
        self.assertEqual(repr(unlike), kept)
        self.assertEqual(repr(same([AND], [OR])), kept)


class Plain(unittest.TestCase):
    def test_the_plain_reckoning_agrees_with_the_document(self):
        self.assertEqual(plain_part([AND, NOT, OR]), [0, 1])
        self.assertEqual(plain_same([AND], [AND, OR]), (1, 1))
        self.assertIsNone(can_make((AND, XOR), MOST_OF_THREE))


if __name__ == "__main__":
    unittest.main()
