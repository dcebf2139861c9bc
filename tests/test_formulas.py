import random
import unittest
from itertools import product

from gatekin.errors import NoRelation
from gatekin.formulas import beside, both, picked, relation_of
from gatekin.relations import keeps
from tests.plain import columns_of, drawn_relation, first_broken, formula_relation, kinds_within, number, some_gates

LOW_KIND, HIGH_KIND, TURN, RISE = (1, (0,)), (1, (1,)), (2, (1, 2)), (2, (0, 2, 3))
EVEN = (4, tuple(row for row in range(16) if bin(row).count("1") % 2 == 0))
EQUAL = (2, (0, 3))
NONE, ALL = (0, ()), (0, (0,))
SMALL = [LOW_KIND, HIGH_KIND, TURN, RISE, EVEN, EQUAL, NONE, ALL, (1, ()), (1, (0, 1)), (3, (1, 2, 4)), (3, (0, 3, 5, 6, 7))]


def full(width):
    return (width, tuple(range(2 ** width)))


def drawn_formula(draw, width, count, relations, columns):
    """Without inner columns only relations without columns can be parts."""
    fit = [told for told in relations if width or not told[0]]
    parts = []
    for k in range(count):
        told = draw.choice(fit)
        parts.append((told, tuple(draw.randrange(width) for pick in range(told[0]))))
    return (width, tuple(parts), tuple(draw.randrange(width) for column in range(columns if width else 0)))


class TestCase(unittest.TestCase):
    def assert_relation(self, told, expected):
        self.assertLessEqual(kinds_within(told), {tuple, int})
        self.assertEqual(told, expected)


class RelationOf(TestCase):
    def assert_formula(self, formula):
        kept = repr(formula)
        self.assert_relation(relation_of(formula), formula_relation(formula))
        self.assertEqual(repr(formula), kept)

    def test_examples(self):
        self.assert_relation(relation_of((2, ((RISE, (0, 1)), (RISE, (1, 0))), (0, 1))), EQUAL)
        self.assert_relation(relation_of((3, ((TURN, (0, 1)), (TURN, (1, 2))), (0, 2))), EQUAL)
        self.assert_relation(relation_of((2, ((RISE, (1, 0)),), (0, 1))), (2, (0, 1, 3)))
        self.assert_relation(relation_of((2, ((RISE, (0, 1)),), (1, 0))), (2, (0, 1, 3)))
        self.assert_relation(relation_of((3, ((RISE, (0, 1)), (RISE, (1, 2))), (0, 1, 2))), (3, (0, 4, 6, 7)))
        self.assert_relation(relation_of((3, ((RISE, (0, 1)), (HIGH_KIND, (0,))), (0, 1, 2))), (3, (3, 7)))

    def test_picks_in_their_order(self):
        told = (3, (1, 3))
        self.assert_relation(relation_of((3, ((told, (0, 1, 2)),), (0, 1, 2))), (3, (1, 3)))
        self.assert_relation(relation_of((3, ((told, (1, 2, 0)),), (0, 1, 2))), (3, (2, 6)))
        self.assert_relation(relation_of((3, ((told, (2, 0, 1)),), (0, 1, 2))), (3, (4, 5)))
        self.assert_relation(relation_of((3, ((told, (0, 1, 2)),), (1, 2, 0))), (3, (4, 5)))
        self.assert_relation(relation_of((3, ((told, (0, 1, 2)),), (2, 0, 1))), (3, (2, 6)))

    def test_without_parts(self):
        for width in range(9):
            self.assert_relation(relation_of((width, (), tuple(range(width)))), full(width))
            self.assert_relation(relation_of((width, (), ())), ALL)
        self.assert_relation(relation_of((1, (), (0, 0))), EQUAL)
        self.assert_relation(relation_of((8, (), (7,) * 16)), (16, (0, 65535)))

    def test_without_columns(self):
        self.assert_relation(relation_of((2, ((RISE, (0, 1)),), ())), ALL)
        self.assert_relation(relation_of((2, ((TURN, (0, 0)),), ())), NONE)
        self.assert_relation(relation_of((8, ((LOW_KIND, (7,)), (HIGH_KIND, (7,))), ())), NONE)

    def test_width_0(self):
        self.assert_relation(relation_of((0, (), ())), ALL)
        self.assert_relation(relation_of((0, ((ALL, ()),), ())), ALL)
        self.assert_relation(relation_of((0, ((NONE, ()),), ())), NONE)
        self.assert_relation(relation_of((0, ((ALL, ()), (NONE, ()), (ALL, ())), ())), NONE)
        self.assert_relation(relation_of((0, ((ALL, ()),) * 256, ())), ALL)

    def test_parts_without_columns(self):
        self.assert_relation(relation_of((2, ((ALL, ()), (RISE, (0, 1))), (0, 1))), RISE)
        self.assert_relation(relation_of((2, ((RISE, (0, 1)), (NONE, ())), (0, 1))), (2, ()))

    def test_picks_alike(self):
        self.assert_relation(relation_of((1, ((RISE, (0, 0)),), (0,))), (1, (0, 1)))
        self.assert_relation(relation_of((1, ((TURN, (0, 0)),), (0,))), (1, ()))
        self.assert_relation(relation_of((2, ((EVEN, (0, 0, 0, 1)),), (0, 1))), EQUAL)

    def test_columns_alike(self):
        self.assert_relation(relation_of((2, ((TURN, (0, 1)),), (0, 0, 1, 0))), (4, (4, 11)))
        self.assert_relation(relation_of((2, ((RISE, (0, 1)),), (1, 1))), EQUAL)
        self.assert_relation(relation_of((1, (), (0,) * 16)), (16, (0, 65535)))

    def test_parts_that_no_row_meets(self):
        for width in range(1, 9):
            for columns in ((), (0,), (width - 1,) * 16, tuple(range(width))):
                for parts in ((((1, ()), (0,)),), ((LOW_KIND, (0,)), (HIGH_KIND, (0,))), ((TURN, (0, 0)),)):
                    self.assert_relation(relation_of((width, parts, columns)), (len(columns), ()))

    def test_rows_that_columns_make_alike_stand_once(self):
        self.assert_relation(relation_of((8, (), (3,))), (1, (0, 1)))
        self.assert_relation(relation_of((3, ((EVEN, (0, 1, 2, 2)),), (2,))), (1, (0, 1)))

    def test_all_widths(self):
        draw = random.Random(23)
        for width in range(9):
            for count in (0, 1, 2, 3, 5):
                for columns in (0, 1, 2, 3, 8, 16):
                    for again in range(4):
                        self.assert_formula(drawn_formula(draw, width, count, SMALL, columns))

    def test_wide_parts(self):
        draw = random.Random(24)
        for width in (1, 4, 8):
            for wide in (8, 12, 16):
                picks = tuple(draw.randrange(width) for pick in range(wide))
                rows = {number([columns_of(row, width)[pick] for pick in picks]) for row in range(0, 2 ** width, 3)}
                told = (wide, tuple(sorted(rows)))
                self.assert_formula((width, ((told, picks),), tuple(range(width))))
                self.assert_formula((width, ((told, picks), (told, picks[::-1])), tuple(range(width))))
                self.assert_formula((width, ((drawn_relation(draw, wide, 256), picks),), (0,) * 16))

    def test_256_parts(self):
        draw = random.Random(25)
        parts = tuple((drawn_relation(draw, 8, 256), tuple(range(8))) for k in range(256))
        self.assert_relation(relation_of((8, parts, tuple(range(8)))), full(8))
        parts = parts[:255] + (((8, (77, 200)), tuple(range(8))),)
        self.assert_relation(relation_of((8, parts, tuple(range(8)))), (8, (77, 200)))
        # Each part takes one row away, so that at the end one is left.
        parts = tuple(((8, tuple(row for row in range(256) if row != k)), tuple(range(8))) for k in range(256))
        self.assert_relation(relation_of((8, parts[:255], tuple(range(8)) * 2)), (16, (65535,)))
        self.assert_relation(relation_of((8, parts, tuple(range(8)))), (8, ()))

    def test_16_columns_of_256_rows(self):
        self.assert_relation(relation_of((8, (), tuple(range(8)) * 2)), (16, tuple(row * 257 for row in range(256))))


class Kept(TestCase):
    """A gate that keeps the relations of all parts keeps the formula's relation."""

    def assert_kept(self, formula, gates):
        told = relation_of(formula)
        count = 0
        for gate in gates:
            if len(told[1]) ** gate[0] <= 20000 and all(first_broken(gate, part[0]) is None for part in formula[1]):
                self.assertIs(keeps(gate, told), True)
                count += 1
        return count

    def test_drawn_formulas(self):
        draw = random.Random(26)
        gates = [gate for inputs in range(3) for gate in some_gates(inputs)]
        gates += [(3, bits) for bits in (232, 150, 128, 254, 202, 23, 77, 142)] + [(4, 65280), (4, 27030), (4, 32768)]
        count = 0
        for again in range(250):
            width = draw.randrange(1, 5)
            formula = drawn_formula(draw, width, draw.randrange(0, 4), SMALL, draw.randrange(0, 5))
            count += self.assert_kept(formula, gates)
        self.assertGreater(count, 1000)

    def test_without_parts_each_gate_keeps_it(self):
        gates = [gate for inputs in range(5) for gate in some_gates(inputs, 20)]
        for formula in ((0, (), ()), (1, (), (0, 0)), (2, (), (1, 0, 1)), (3, (), (2, 0, 0))):
            self.assertEqual(self.assert_kept(formula, gates), len(gates))

    def test_examples(self):
        chain = relation_of((3, ((RISE, (0, 1)), (RISE, (1, 2))), (0, 1, 2)))
        self.assertIs(keeps((2, 8), chain), True)
        self.assertIs(keeps((2, 14), chain), True)
        self.assertIs(keeps((1, 1), chain), False)


class Both(TestCase):
    def test_examples(self):
        self.assert_relation(both(RISE, TURN), (2, (2,)))
        self.assert_relation(both(RISE, EQUAL), EQUAL)
        self.assert_relation(both(LOW_KIND, HIGH_KIND), (1, ()))
        self.assert_relation(both(NONE, ALL), NONE)
        self.assert_relation(both(ALL, ALL), ALL)

    def test_256_rows(self):
        one, other = (16, tuple(range(256))), (16, tuple(range(255, 511)))
        self.assert_relation(both(one, one), one)
        self.assert_relation(both(one, other), (16, (255,)))
        self.assert_relation(both(other, one), (16, (255,)))
        self.assert_relation(both((16, (65535,)), (16, tuple(range(65280, 65536)))), (16, (65535,)))
        self.assert_relation(both(full(8), full(8)), full(8))

    def test_all_widths(self):
        draw = random.Random(27)
        for width in range(17):
            for count in (0, 1, 3, 20, 256):
                one, other = drawn_relation(draw, width, count), drawn_relation(draw, width, draw.randrange(257))
                kept = repr((one, other))
                told = (width, tuple(sorted(set(one[1]) & set(other[1]))))
                self.assert_relation(both(one, other), told)
                self.assert_relation(both(other, one), told)
                self.assert_relation(both(one, one), one)
                self.assertEqual(repr((one, other)), kept)


class Beside(TestCase):
    def test_examples(self):
        self.assert_relation(beside(RISE, HIGH_KIND), (3, (4, 6, 7)))
        self.assert_relation(beside(HIGH_KIND, RISE), (3, (1, 5, 7)))
        self.assert_relation(beside(TURN, EQUAL), (4, (1, 2, 13, 14)))
        self.assert_relation(beside((2, (1,)), (3, (1,))), (5, (5,)))

    def test_without_rows_or_columns(self):
        for told in SMALL:
            self.assert_relation(beside(told, ALL), told)
            self.assert_relation(beside(ALL, told), told)
            self.assert_relation(beside(told, NONE), (told[0], ()))
            self.assert_relation(beside(NONE, told), (told[0], ()))
            self.assert_relation(beside(told, (3, ())), (told[0] + 3, ()))

    def test_all_widths(self):
        draw = random.Random(28)
        for one_width, other_width in product(range(17), repeat=2):
            if one_width + other_width <= 16:
                one, other = drawn_relation(draw, one_width, 12), drawn_relation(draw, other_width, 21)
                kept = repr((one, other))
                rows = [number(columns_of(first, one_width) + columns_of(second, other_width))
                        for first in one[1] for second in other[1]]
                self.assert_relation(beside(one, other), (one_width + other_width, tuple(sorted(rows))))
                self.assertEqual(repr((one, other)), kept)

    def test_256_rows_are_told(self):
        self.assert_relation(beside(full(4), full(4)), full(8))
        self.assert_relation(beside(full(8), ALL), full(8))
        self.assert_relation(beside((8, (255,)), full(8)), (16, tuple(255 + 256 * row for row in range(256))))
        self.assert_relation(beside(full(8), (8, (1,))), (16, tuple(range(256, 512))))
        self.assert_relation(beside((8, tuple(range(85))), (2, (0, 1, 3))),
                             (10, tuple(row + 256 * more for more in (0, 1, 3) for row in range(85))))
        self.assertEqual(len(beside((8, tuple(range(128))), (8, (3, 9)))[1]), 256)

    def test_more_are_refused(self):
        for one, other in (((8, tuple(range(129))), TURN), ((5, tuple(range(17))), full(4)), (full(8), full(8)),
                           ((8, tuple(range(86))), RISE), (full(8), EQUAL), ((7, tuple(range(52))), (3, (0, 1, 2, 3, 4)))):
            kept = repr((one, other))
            self.assertRaises(NoRelation, beside, one, other)
            self.assertRaises(NoRelation, beside, other, one)
            self.assertEqual(repr((one, other)), kept)


class Picked(TestCase):
    def assert_picked(self, told, columns):
        kept = repr((told, columns))
        rows = {number([columns_of(row, told[0])[column] for column in columns]) for row in told[1]}
        self.assert_relation(picked(told, columns), (len(columns), tuple(sorted(rows))))
        self.assertEqual(repr((told, columns)), kept)

    def test_examples(self):
        self.assert_relation(picked(RISE, [1, 0]), (2, (0, 1, 3)))
        self.assert_relation(picked(RISE, [0, 1]), RISE)
        self.assert_relation(picked(RISE, [1]), (1, (0, 1)))
        self.assert_relation(picked(TURN, [0, 0, 1]), (3, (3, 4)))
        self.assert_relation(picked((3, (1, 3)), [1, 2, 0]), (3, (4, 5)))
        self.assert_relation(picked((3, (1, 3)), [2, 0, 1]), (3, (2, 6)))

    def test_without_columns(self):
        for told in SMALL:
            self.assert_relation(picked(told, []), ALL if told[1] else NONE)

    def test_without_rows(self):
        for width in (1, 4, 16):
            self.assert_picked((width, ()), [0])
            self.assert_picked((width, ()), [width - 1] * 16)

    def test_16_columns(self):
        self.assert_relation(picked((1, (0, 1)), [0] * 16), (16, (0, 65535)))
        rows = tuple(range(65280, 65536))
        self.assert_relation(picked((16, rows), list(range(16))), (16, rows))
        self.assert_picked((16, rows), list(range(16))[::-1])
        self.assert_picked((16, rows), list(range(8)) * 2)
        self.assert_relation(picked((16, rows), list(range(8, 16)) * 2), (16, (65535,)))

    def test_all_widths(self):
        draw = random.Random(29)
        for width in range(1, 17):
            for count in (0, 1, 2, 7, 16):
                for rows in (1, 5, 40, 256):
                    self.assert_picked(drawn_relation(draw, width, rows), [draw.randrange(width) for c in range(count)])

    def test_what_is_done_to_the_columns_afterwards_changes_nothing(self):
        columns = [1, 0]
        told = picked(RISE, columns)
        columns.append(0)
        columns[0] = 0
        self.assertEqual(told, (2, (0, 1, 3)))
        self.assertEqual(picked(RISE, [1, 0]), (2, (0, 1, 3)))


class AskedAgain(TestCase):
    def test_nothing_asked_changes_what_is_told_later(self):
        draw = random.Random(30)
        formulas = [drawn_formula(draw, width, 3, SMALL, 4) for width in range(9)]

        def ask_all():
            told = [relation_of(formula) for formula in formulas]
            return told + [[both(one, one), beside(one, other), picked(one, [0] * one[0])]
                           for one, other in product(SMALL, SMALL)]

        kept = repr((formulas, SMALL))
        first = ask_all()
        told = repr(first)
        self.assertEqual(ask_all(), first)
        self.assertEqual(repr(first), told)
        self.assertEqual(repr((formulas, SMALL)), kept)


if __name__ == "__main__":
    unittest.main()
