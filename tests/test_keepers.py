import random
import unittest
from functools import lru_cache
from itertools import combinations_with_replacement, product
from unittest import mock

from gatekin.errors import TooMany
from gatekin.gates import is_gate
from gatekin.keepers import keepers, made_of
from tests.checks import is_kept
from tests.plain import columns_of, drawn_relation, first_broken, formula_relation, kinds_within, limit, row_put
from tests.test_kinds import RELATIONS

LOW_KIND, HIGH_KIND, TURN, RISE, EVEN = RELATIONS.values()
EQUAL = (2, (0, 3))
ALL, NONE = (0, (0,)), (0, ())
EMPTY, FREE = (1, ()), (1, (0, 1))
NOT_BOTH, ONE_OF_THREE = (2, (0, 1, 2)), (3, (1, 2, 4))
SMALL = [LOW_KIND, HIGH_KIND, TURN, RISE, EQUAL, ALL, NONE, EMPTY, FREE, NOT_BOTH, ONE_OF_THREE]
# The most rows of a relation for wished ones, or gates, of as many rows or inputs as the place tells.
MOST = [16, 16, 8, 4]


@lru_cache(None)
def plain_keepers(relations, inputs):
    return tuple(bits for bits in range(limit(inputs)) if all(is_kept((inputs, bits), told) for told in relations))


def lists_of_small(most):
    return [list(chosen) for count in range(most + 1) for chosen in combinations_with_replacement(SMALL, count)]


def drawn_list(draw, inputs, most=4):
    """Relations as great as they may be among them."""
    told = []
    for k in range(draw.randrange(most + 1)):
        width = draw.randrange(5)
        told.append(drawn_relation(draw, width, draw.randrange(MOST[inputs] + 1)))
    return told


def is_formula(thing):
    if type(thing) is not tuple or len(thing) != 3 or not kinds_within(thing) <= {tuple, int}:
        return False
    width, parts, columns = thing
    return (0 <= width <= 8 and type(parts) is tuple and len(parts) <= 256 and type(columns) is tuple
            and len(columns) <= 16 and all(0 <= column < width for column in columns)
            and all(len(part) == 2 and len(part[1]) == part[0][0] for part in parts)
            and all(0 <= pick < width for part in parts for pick in part[1]))


class Keepers(unittest.TestCase):
    def assert_keepers(self, relations, inputs):
        kept = list(relations)
        told = keepers(relations, inputs)
        self.assertIs(type(told), tuple)
        self.assertLessEqual(kinds_within(told), {tuple, int})
        self.assertEqual(told, plain_keepers(tuple(relations), inputs))
        self.assertEqual(relations, kept)

    def test_examples(self):
        self.assertEqual(keepers([RISE], 2), (0, 8, 10, 12, 14, 15))
        self.assertEqual(keepers([TURN], 1), (1, 2))
        self.assertEqual(keepers([LOW_KIND, HIGH_KIND], 2), (8, 10, 12, 14))
        self.assertEqual(keepers([LOW_KIND], 0), (0,))
        self.assertEqual(keepers([TURN], 0), ())
        self.assertEqual(keepers([TURN, RISE], 3), (170, 204, 232, 240))
        self.assertEqual(keepers([ONE_OF_THREE], 2), (10, 12))

    def test_no_relations(self):
        for inputs in range(4):
            self.assertEqual(keepers([], inputs), tuple(range(limit(inputs))))

    def test_each_of_the_five_kinds(self):
        for told in (LOW_KIND, HIGH_KIND, TURN, RISE):
            for inputs in range(4):
                self.assert_keepers([told], inputs)
        for inputs in range(3):
            self.assert_keepers([EVEN], inputs)
        self.assertEqual(keepers([EVEN], 2), (0, 3, 5, 6, 9, 10, 12, 15))

    def test_up_to_two_small_ones(self):
        for relations in lists_of_small(2):
            for inputs in range(3):
                self.assert_keepers(relations, inputs)

    def test_three_and_four(self):
        draw = random.Random(50)
        for again in range(60):
            self.assert_keepers([draw.choice(SMALL) for k in range(3 + again % 2)], again % 4)

    def test_alike_ones(self):
        for inputs in range(4):
            self.assertEqual(keepers([RISE] * 4, inputs), keepers([RISE], inputs))

    def test_each_order_tells_the_same(self):
        for inputs in range(4):
            self.assertEqual(keepers([TURN, RISE, LOW_KIND], inputs), keepers([LOW_KIND, TURN, RISE], inputs))

    def test_each_relation_of_at_most_two_columns(self):
        for width in range(3):
            for marks in product((False, True), repeat=2 ** width):
                told = (width, tuple(row for row, mark in enumerate(marks) if mark))
                for inputs in range(4):
                    self.assert_keepers([told], inputs)

    def test_without_rows(self):
        for width in range(5):
            self.assertEqual(keepers([(width, ())], 0), ())
            for inputs in (1, 2, 3):
                self.assertEqual(keepers([(width, ())], inputs), tuple(range(limit(inputs))))
                self.assertEqual(keepers([(width, ()), RISE], inputs), keepers([RISE], inputs))

    def test_without_columns(self):
        for inputs in range(4):
            self.assertEqual(keepers([ALL], inputs), tuple(range(limit(inputs))))
        self.assertEqual(keepers([NONE], 0), ())

    def test_constants_are_put_to_no_rows(self):
        for width in range(1, 5):
            for rows in ((0,), (2 ** width - 1,), (0, 2 ** width - 1), tuple(range(1, 2 ** width - 1))):
                self.assert_keepers([(width, rows)], 0)
        self.assertEqual(keepers([(4, tuple(range(16)))] * 4, 0), (0, 1))

    def test_drawn_lists(self):
        draw = random.Random(51)
        for again in range(240):
            inputs = again % 4
            self.assert_keepers(drawn_list(draw, inputs, 4 if again % 3 else 2), inputs)

    def test_told_at_the_bounds(self):
        draw = random.Random(52)
        full = (4, tuple(range(16)))
        for inputs in range(2):
            self.assertEqual(keepers([full] * 4, inputs), tuple(range(limit(inputs))))
        for inputs in (2, 3):
            for again in range(4):
                self.assert_keepers([drawn_relation(draw, 4, MOST[inputs]) for k in range(4)], inputs)
        self.assert_keepers([EVEN] * 4, 2)
        self.assert_keepers([(3, tuple(range(8)))] * 4, 2)
        self.assert_keepers([(4, (0, 3, 12, 15)), (4, (0, 5, 10, 15)), (2, (0, 1, 2, 3)), (4, (0, 6, 9, 15))], 3)

    def test_more_than_four_columns(self):
        for width in (5, 6, 16):
            for rows in ((), (0,), (0, 1)):
                for inputs in range(4):
                    for relations in ([(width, rows)], [RISE, LOW_KIND, (width, rows)], [(width, rows), RISE]):
                        self.assertRaises(TooMany, keepers, relations, inputs)

    def test_too_many_lists_of_rows(self):
        for inputs in (2, 3):
            rows = tuple(range(MOST[inputs] + 1))
            for relations in ([(4, rows)], [RISE, (4, rows)], [(4, rows), RISE], [RISE, TURN, LOW_KIND, (4, rows)]):
                self.assertRaises(TooMany, keepers, relations, inputs)
                self.assertEqual(keepers(relations, 1), plain_keepers(tuple(relations), 1))
                self.assertEqual(keepers(relations, 0), plain_keepers(tuple(relations), 0))
        self.assertRaises(TooMany, keepers, [EVEN], 3)
        self.assertRaises(TooMany, keepers, [(3, (0, 1, 2, 3, 4))], 3)

    def test_refused_ahead_of_the_work(self):
        relations = [RISE, TURN, RISE, (16, tuple(range(256)))]
        for inputs in (0, 1, 2, 3):
            with mock.patch("gatekin.keepers.lists_of") as asked:
                self.assertRaises(TooMany, keepers, relations, inputs)
            asked.assert_not_called()
        with mock.patch("gatekin.keepers.lists_of") as asked:
            self.assertRaises(TooMany, keepers, [RISE, (4, tuple(range(9)))], 2)
        asked.assert_not_called()

    def test_asked_again(self):
        relations = [RISE]
        told = keepers(relations, 2)
        relations.append(TURN)
        self.assertEqual(told, (0, 8, 10, 12, 14, 15))
        self.assertEqual(keepers(relations, 2), (10, 12))
        self.assertEqual(keepers([RISE], 2), told)


class MadeOf(unittest.TestCase):
    def assert_formula(self, formula, relations, wish):
        self.assertTrue(is_formula(formula), formula)
        self.assertLessEqual({part[0] for part in formula[1]}, set(relations))
        self.assertEqual(formula_relation(formula), wish)

    def assert_gate(self, gate, rows, relations, wish):
        self.assertTrue(is_gate(gate))
        self.assertLessEqual(gate[0], 3)
        for told in relations:
            self.assertTrue(is_kept(gate, told))
        self.assertIs(type(rows), list)
        self.assertEqual(len(rows), gate[0])
        self.assertLessEqual(set(rows), set(wish[1]))
        self.assertNotIn(row_put(gate, rows, wish[0]), wish[1])

    def assert_told(self, relations, wish):
        """Each answer shows by itself that the other can't be; gone through again is which it must be."""
        kept = list(relations)
        told = made_of(relations, wish)
        self.assertIs(type(told), tuple)
        inputs = len(wish[1])
        breakers = [bits for bits in plain_keepers(tuple(relations), inputs) if not is_kept((inputs, bits), wish)]
        if breakers:
            self.assertEqual((told[0], len(told)), ("cant", 3))
            self.assert_gate(told[1], told[2], relations, wish)
        else:
            self.assertEqual((told[0], len(told)), ("made", 2))
            self.assert_formula(told[1], relations, wish)
        self.assertEqual(relations, kept)
        return told[0]

    def test_examples(self):
        self.assertEqual(self.assert_told([RISE], EQUAL), "made")
        self.assertEqual(self.assert_told([RISE], TURN), "cant")
        self.assertEqual(self.assert_told([TURN, RISE], (4, (5, 10))), "made")
        self.assertEqual(self.assert_told([TURN], (2, (0, 3))), "made")
        self.assertEqual(self.assert_told([EQUAL], LOW_KIND), "cant")
        self.assertEqual(self.assert_told([LOW_KIND, TURN], HIGH_KIND), "made")
        self.assertEqual(self.assert_told([LOW_KIND, HIGH_KIND], TURN), "cant")
        self.assertEqual(self.assert_told([RISE], (3, (0, 4, 6))), "cant")
        self.assertEqual(self.assert_told([RISE, LOW_KIND], (2, (0, 2))), "made")
        self.assertEqual(self.assert_told([ONE_OF_THREE], TURN), "made")
        self.assertEqual(self.assert_told([ONE_OF_THREE], NOT_BOTH), "made")

    def test_a_relation_of_itself(self):
        for told in SMALL:
            self.assertEqual(self.assert_told([told], told), "made")
            self.assertEqual(self.assert_told([RISE, told, LOW_KIND], told), "made")

    def test_of_nothing(self):
        self.assertEqual(self.assert_told([], EQUAL), "made")
        self.assertEqual(self.assert_told([], FREE), "made")
        self.assertEqual(self.assert_told([], ALL), "made")
        for wish in (NONE, EMPTY, LOW_KIND, HIGH_KIND, TURN, RISE, ONE_OF_THREE, (8, (0, 1, 255))):
            self.assertEqual(self.assert_told([], wish), "cant")
        self.assertEqual(self.assert_told([], (8, (0, 255))), "made")

    def test_wished_without_rows(self):
        for width in range(9):
            wish = (width, ())
            self.assertEqual(self.assert_told([], wish), "cant")
            self.assertEqual(made_of([], wish)[2], [])
            for relations in ([TURN], [EMPTY], [NONE], [LOW_KIND, HIGH_KIND], [ONE_OF_THREE, RISE]):
                self.assertEqual(self.assert_told(relations, wish), "made")
            for relations in ([RISE], [ALL], [LOW_KIND], [HIGH_KIND], [FREE, EQUAL], [HIGH_KIND, RISE]):
                self.assertEqual(self.assert_told(relations, wish), "cant")
            self.assertEqual(made_of([HIGH_KIND], wish), ("cant", (0, 1), []))

    def test_wished_without_columns(self):
        for relations in lists_of_small(2):
            self.assertEqual(self.assert_told(relations, ALL), "made")
            self.assert_told(relations, NONE)

    def test_all_small_ones(self):
        count = {"made": 0, "cant": 0}
        for relations in lists_of_small(2):
            for wish in SMALL:
                count[self.assert_told(relations, wish)] += 1
        self.assertGreater(min(count.values()), 200)

    def test_each_wish_of_two_columns(self):
        for marks in product((False, True), repeat=4):
            wish = (2, tuple(row for row, mark in enumerate(marks) if mark))
            if len(wish[1]) < 4:
                for relations in lists_of_small(1) + [[RISE, TURN], [RISE, LOW_KIND], [TURN, HIGH_KIND],
                                                      [NOT_BOTH, RISE]]:
                    self.assert_told(relations, wish)

    def test_drawn_wishes(self):
        draw = random.Random(53)
        for again in range(200):
            rows = again % 4
            wish = drawn_relation(draw, draw.randrange(9), rows)
            self.assert_told(drawn_list(draw, len(wish[1])), wish)

    def test_wishes_that_formulas_make(self):
        draw = random.Random(54)
        count = 0
        while count < 100:
            relations = [draw.choice(SMALL) for k in range(draw.randrange(1, 5))]
            width = draw.randrange(1, 5)
            parts = []
            for k in range(draw.randrange(1, 5)):
                told = draw.choice(relations)
                parts.append((told, tuple(draw.randrange(width) for pick in range(told[0]))))
            wish = formula_relation((width, tuple(parts),
                                     tuple(draw.randrange(width) for k in range(draw.randrange(9)))))
            if len(wish[1]) <= 3:
                self.assertEqual(self.assert_told(relations, wish), "made")
                count += 1

    def test_wishes_that_all_keepers_close(self):
        """What the gates that keep the relations give of some rows, and nothing else, can be made."""
        draw = random.Random(55)
        count = 0
        while count < 60:
            relations = drawn_list(draw, 3, 3)
            width = draw.randrange(1, 9)
            rows = drawn_relation(draw, width, draw.randrange(1, 4))[1]
            inputs = len(rows)
            given = {row_put((inputs, bits), rows, width) for bits in plain_keepers(tuple(relations), inputs)}
            if len(given) <= 3:
                self.assertEqual(self.assert_told(relations, (width, tuple(sorted(given)))), "made")
                if len(given) > 1:
                    count += 1

    def test_eight_columns_and_three_rows(self):
        draw = random.Random(56)
        every = (8, (170, 204, 240))
        full = [(4, tuple(sorted(draw.sample(range(16), 4)))) for k in range(4)]
        self.assert_told(full, every)
        for again in range(10):
            self.assert_told([drawn_relation(draw, 4, 4) for k in range(4)], drawn_relation(draw, 8, 3))
        self.assert_told([], every)
        # Only the three inputs themselves keep these, so that just the three rows are given.
        inputs_alone = [ONE_OF_THREE, RISE]
        self.assertEqual(plain_keepers(tuple(inputs_alone), 3), (170, 204, 240))
        self.assertEqual(self.assert_told(inputs_alone, every), "made")
        self.assertEqual(self.assert_told(inputs_alone, (8, (1, 77, 200))), "made")

    def test_alike_columns(self):
        self.assertEqual(self.assert_told([RISE], (8, (0, 255))), "made")
        self.assertEqual(self.assert_told([RISE], (4, (0, 12, 15))), "made")
        self.assertEqual(self.assert_told([TURN], (6, (7, 56))), "made")

    def test_told_at_the_bounds_of_the_list(self):
        full = (4, tuple(range(16)))
        for wish in (NONE, LOW_KIND, (8, ()), (8, (200,)), (8, (255,)), (8, (0,))):
            self.assert_told([full] * 4, wish)
        self.assert_told([EVEN] * 4, (8, (15, 240)))
        self.assert_told([EVEN, (4, (1, 2, 4, 7, 8, 11, 13, 14)), RISE, TURN], (8, (51, 204)))
        self.assert_told([(4, (0, 3, 12, 15)), (4, (0, 5, 10, 15)), (2, (0, 1, 2, 3)), EQUAL], (8, (1, 2, 3)))

    def test_256_parts(self):
        relations = [(4, (1, 2, 4, 8)), (4, (7, 11, 13, 14)), (4, (0, 3, 12, 15)), (4, (0, 5, 10, 15))]
        wish = (8, (170, 204, 240))
        self.assertEqual(self.assert_told(relations, wish), "made")
        self.assertLessEqual(len(made_of(relations, wish)[1][1]), 256)

    def test_wished_ones_too_great(self):
        for relations in ([], [RISE], [TURN, RISE, LOW_KIND, NONE]):
            for wish in ((9, ()), (9, (0,)), (9, (0, 1, 511)), (16, ()), (16, (0, 65535)), (2, (0, 1, 2, 3)),
                         (3, (0, 1, 2, 3)), (8, (0, 1, 2, 255)), (8, tuple(range(256))), (9, (0, 1, 2, 3)),
                         (4, tuple(range(16)))):
                self.assertRaises(TooMany, made_of, relations, wish)

    def test_relations_too_great(self):
        for wish in (NONE, ALL, LOW_KIND, EQUAL, RISE, (8, (0, 3, 255))):
            self.assertRaises(TooMany, made_of, [(5, ())], wish)
            self.assertRaises(TooMany, made_of, [RISE, (5, (0, 31))], wish)
            self.assertRaises(TooMany, made_of, [(16, (0,)), RISE], wish)
        nine, five = (4, tuple(range(9))), (3, tuple(range(5)))
        self.assertRaises(TooMany, made_of, [nine], EQUAL)
        self.assertRaises(TooMany, made_of, [RISE, TURN, nine], EQUAL)
        self.assertRaises(TooMany, made_of, [five], RISE)
        self.assertRaises(TooMany, made_of, [EVEN], RISE)
        self.assert_told([nine], LOW_KIND)
        self.assert_told([nine], NONE)
        self.assert_told([five], EQUAL)

    def test_what_is_told_is_the_askers_own(self):
        relations = [RISE]
        told = made_of(relations, TURN)
        again = made_of(relations, TURN)
        told[2].append(3)
        told[2][0] = 0
        relations.append(TURN)
        self.assertEqual(again[2], [1, 2])
        self.assertEqual(made_of([RISE], TURN), again)
        self.assertEqual(made_of(relations, TURN)[0], "made")


class Plain(unittest.TestCase):
    def test_the_plain_reckoning_agrees_with_the_document(self):
        self.assertEqual(plain_keepers((LOW_KIND,), 1), (0, 2))
        self.assertEqual(first_broken((0, 1), LOW_KIND), [])
        self.assertEqual(columns_of(6, 4), [0, 1, 1, 0])


if __name__ == "__main__":
    unittest.main()
