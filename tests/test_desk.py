import random
import unittest

from gatekin.build import build
from gatekin.circuits import gate_of
from gatekin.desk import Desk
from gatekin.errors import GateError, NoName, NoRow, NotAll, NotMade, NoText, TooMany
from gatekin.kinds import KINDS
from gatekin.relations import closed, keeps
from gatekin.sets import least_part, same
from gatekin.texts import circuit_text, gate_text, read_circuit, read_gate, read_relation, relation_text, set_text
from tests.checks import Checks
from tests.plain import drawn_gate, drawn_relation, first_broken, least_costs, limit, row_put
from tests.test_build import kept_kinds
from tests.test_keepers import plain_keepers
from tests.test_sets import can_make
from tests.test_texts import NO_TEXTS

NOT = (1, 1)
AND, OR, XOR, NAND = (2, 8), (2, 14), (2, 6), (2, 7)
RISE, TURN, EQUAL = (2, (0, 2, 3)), (2, (1, 2)), (2, (0, 3))
# A relation of so many rows that a gate of four inputs is refused.
MANY = (4, tuple(range(12)))
STANDING = {
    "and": [AND], "lattice": [AND, OR], "nand": [NAND], "full": [AND, NOT], "great": [AND, XOR], "empty": [],
    "odd": [XOR],
    "four": [(4, 32768)], "mixed": [AND, NOT, OR],
}
RELATIONS = {"rise": RISE, "turn": TURN, "equal": EQUAL, "many": MANY, "empty": (1, ()), "and": (2, (0, 1, 2))}
# One row of each kind that is answered by a desk with these.
GOOD = [
    "set a 2:0001", "set a ", "relation r 1: 0", "show and", "table rise", "made and 2:0111", "build nand 1:10",
    "kinds and", "least and 3:00000001", "keeps and rise", "closed s and turn", "part a mixed", "same and nand",
    "of equal rise",
]
FIRST_WORDS = sorted({row.split(" ")[0] for row in GOOD})


def laid_desk():
    desk = Desk()
    for name, gates in STANDING.items():
        desk.say("set " + name + " " + set_text(gates))
    for name, told in RELATIONS.items():
        desk.say("relation " + name + " " + relation_text(told))
    return desk


def shown(desk, word, name):
    try:
        return desk.say(word + " " + name)
    except NoName:
        return None


def all_that_stands(desk):
    names = sorted(set(STANDING) | set(RELATIONS) | {"a", "b", "r", "s", "none", "x", "abcdefgh"})
    return [(name, shown(desk, "show", name), shown(desk, "table", name)) for name in names]


class DeskCase(Checks):
    def setUp(self):
        self.desk = laid_desk()

    def say(self, row):
        told = self.desk.say(row)
        self.assertIs(type(told), str)
        return told

    def refused(self, error, row):
        """Just this refusal, and nothing changed."""
        kept = all_that_stands(self.desk)
        with self.subTest(row=row):
            with self.assertRaises(GateError) as caught:
                self.desk.say(row)
            self.assertIs(type(caught.exception), error)
            self.assertEqual(all_that_stands(self.desk), kept)
        return caught.exception

    def refuse_name(self, row, name):
        told = self.refused(NoName, row)
        self.assertEqual(told.name, name)
        self.assertIs(type(told.name), str)


class Shelves(DeskCase):
    def test_set_and_show(self):
        self.assertEqual(self.say("set a 2:0001 1:10"), "ok")
        self.assertEqual(self.say("show a"), "2:0001 1:10")
        self.assertEqual(self.say("set a 0:1"), "ok")
        self.assertEqual(self.say("show a"), "0:1")

    def test_relation_and_table(self):
        self.assertEqual(self.say("relation r 2: 00 01 11"), "ok")
        self.assertEqual(self.say("table r"), "2: 00 01 11")
        self.assertEqual(self.say("relation r 0: -"), "ok")
        self.assertEqual(self.say("table r"), "0: -")

    def test_drawn_things(self):
        draw = random.Random(80)
        for again in range(60):
            gates = [drawn_gate(draw) for number in range(draw.randrange(7))]
            told = drawn_relation(draw, draw.randrange(17), draw.randrange(20))
            self.assertEqual(self.say("set a " + set_text(gates)), "ok")
            self.assertEqual(self.say("relation a " + relation_text(told)), "ok")
            self.assertEqual(self.say("show a"), set_text(gates))
            self.assertEqual(self.say("table a"), relation_text(told))

    def test_text_that_is_nothing(self):
        self.assertEqual(self.say("set a "), "ok")
        self.assertEqual(self.say("show a"), "")
        self.assertEqual(self.say("set and "), "ok")
        self.assertEqual(self.say("show and"), "")
        self.refused(NoText, "relation r ")

    def test_text_that_is_lacking(self):
        for row in ("set a", "set", "set ", "relation r", "relation", "relation "):
            self.refused(NoRow, row)

    def test_text_is_all_that_follows(self):
        for row in ("set a  ", "set a  2:0001", "set a 2:0001 ", "set a 2:0001  1:10", "set a ok", "set a 2:0001\n",
                    "set a -", "relation r  1:", "relation r 1: ", "relation r 1:  0", "relation r 2: 01 10",
                    "relation r 1: 0 1 1", "relation r 17:", "relation r r", "set a " + " ".join(["0:1"] * 7)):
            self.refused(NoText, row)
        self.assertEqual(self.say("set a " + " ".join(["0:1"] * 6)), "ok")

    def test_the_two_shelves_are_apart(self):
        desk = Desk()
        desk.say("set x 2:0001")
        self.assertRaises(NoName, desk.say, "table x")
        self.assertRaises(NoName, desk.say, "keeps x x")
        desk.say("relation x 1: 1")
        self.assertEqual(desk.say("show x"), "2:0001")
        self.assertEqual(desk.say("table x"), "1: 1")
        self.assertEqual(desk.say("keeps x x"), "yes")
        desk.say("set x 1:10")
        self.assertEqual(desk.say("table x"), "1: 1")
        self.assertEqual(desk.say("keeps x x"), "no 0")
        other = Desk()
        other.say("relation x 1: 1")
        self.assertRaises(NoName, other.say, "show x")

    def test_two_desks_are_apart(self):
        one, other = Desk(), Desk()
        one.say("set a 2:0001")
        one.say("relation r 1: 0")
        self.assertRaises(NoName, other.say, "show a")
        self.assertRaises(NoName, other.say, "table r")
        other.say("set a 1:10")
        self.assertEqual(one.say("show a"), "2:0001")
        self.assertEqual(other.say("show a"), "1:10")
        self.assertRaises(NoName, Desk().say, "show a")

    def test_names(self):
        for name in ("a", "z", "abcdefgh", "zzzzzzzz", "set", "show", "of", "ok", "by"):
            self.assertEqual(self.say("set " + name + " 1:10"), "ok")
            self.assertEqual(self.say("relation " + name + " 1:"), "ok")
            self.assertEqual(self.say("show " + name), "1:10")
            self.assertEqual(self.say("table " + name), "1:")

    def test_names_that_are_none(self):
        for name in ("", "abcdefghi", "a" * 100, "A", "aB", "a1", "1", "a_", "a-b", "\u00e9", "\u00df", "\u03b1",
                     "\u0430", "a.", "a\n", "\ta", "\uff41"):
            for row in ("set {} 1:10", "relation {} 1:", "show {}", "table {}", "made {} 1:10", "build {} 1:10",
                        "kinds {}", "least {} 1:10", "keeps {} rise", "keeps and {}", "closed {} and rise",
                        "closed s {} rise", "closed s and {}", "part {} and", "part a {}", "same {} and", "same and {}",
                        "of {} rise", "of rise {}"):
                self.refused(NoRow, row.format(name))


class Rows(DeskCase):
    def test_no_text(self):
        for thing in NO_TEXTS + [["show", "and"], ("show and",), b"show and"]:
            self.refused(NoRow, thing)

    def test_other_first_words(self):
        for row in ("", " ", "  ", "ok", "Show and", "SHOW and", "shows and", "sho and", "show\tand", "tables rise",
                    "none", "\n", "show\nand", " show and", "\u00e9 and", "-", "2:0001", "put a b"):
            self.refused(NoRow, row)

    def test_too_few_words(self):
        for word in FIRST_WORDS:
            self.refused(NoRow, word)
            self.refused(NoRow, word + " ")
        for row in ("made and", "build nand", "least and", "keeps and", "closed s", "closed s and", "part a",
                    "same and", "of rise"):
            self.refused(NoRow, row)
            self.refused(NoRow, row + " ")

    def test_too_many_words(self):
        for row in GOOD:
            if not row.startswith(("set", "relation")):
                self.refused(NoRow, row + " x")
                self.refused(NoRow, row + " ")
                self.refused(NoRow, row + "  ")

    def test_blanks_between(self):
        for row in GOOD:
            words = row.split(" ")
            self.refused(NoRow, " " + row)
            self.refused(NoRow, words[0] + "  " + " ".join(words[1:]))
            self.refused(NoRow, words[0] + "\t" + " ".join(words[1:]))
            if len(words) == 3 and not row.startswith(("set", "relation")):
                self.refused(NoRow, " ".join(words[:2]) + "  " + words[2])

    def test_gates_that_are_words_of_no_signs(self):
        for row in ("made and ", "build nand ", "least and ", "made none ", "made and  ", "made  2:0001"):
            self.refused(NoRow, row)

    def test_no_name(self):
        self.refuse_name("show none", "none")
        self.refuse_name("show rise", "rise")
        self.refuse_name("table none", "none")
        self.refuse_name("table lattice", "lattice")
        self.refuse_name("made none 1:10", "none")
        self.refuse_name("build none 1:10", "none")
        self.refuse_name("kinds none", "none")
        self.refuse_name("least none 1:10", "none")
        self.refuse_name("keeps none rise", "none")
        self.refuse_name("keeps and none", "none")
        self.refuse_name("closed s none rise", "none")
        self.refuse_name("closed s and none", "none")
        self.refuse_name("part a none", "none")
        self.refuse_name("same none and", "none")
        self.refuse_name("same and none", "none")
        self.refuse_name("of none rise", "none")
        self.refuse_name("of rise none", "none")

    def test_the_first_name_that_does_not_stand(self):
        self.refuse_name("keeps x none", "x")
        self.refuse_name("keeps none x", "none")
        self.refuse_name("closed s x none", "x")
        self.refuse_name("closed none none x", "none")
        self.refuse_name("closed x rise and", "rise")
        self.refuse_name("same x none", "x")
        self.refuse_name("same none x", "none")
        self.refuse_name("of x none", "x")
        self.refuse_name("of none x", "none")
        self.refuse_name("keeps rise lattice", "rise")
        self.refuse_name("of turn lattice", "lattice")

    def test_no_row_ahead_of_no_name(self):
        for row in ("show none x", "show none ", "made none", "made none ", "made none 1:10 x", "keeps none",
                    "keeps none A", "closed S none none", "closed s none R", "same none b1", "of none ", "least none",
                    "part none", "part A none"):
            self.refused(NoRow, row)

    def test_no_name_ahead_of_no_text(self):
        for word in ("made", "build", "least"):
            for gate in ("x", "1:1", "4:0", "0:1", "4:0110100110010110", "5:0"):
                self.refuse_name(word + " none " + gate, "none")

    def test_gates_that_are_none(self):
        for word in ("made", "build", "least"):
            for gate in ("x", "1", "1:1", "1:100", "01:10", "2:0002", "5:" + "0" * 32, "+1:10", "1:1\uff10", ":",
                         "1:10\n", "-1:0", "and"):
                self.refused(NoText, word + " nand " + gate)

    def test_inputs_that_a_row_lets(self):
        for bits in (0, 27030, 65535):
            self.refused(NoText, "made nand " + gate_text((4, bits)))
            self.refused(NoText, "least and " + gate_text((4, bits)))
            self.refused(NoText, "made great " + gate_text((4, bits)))
        for gate in ("0:0", "0:1"):
            self.refused(NoText, "build nand " + gate)
            self.refused(NoText, "build and " + gate)
        for inputs in range(4):
            self.assertTrue(self.say("made nand " + gate_text((inputs, 0))))
        for inputs in range(1, 5):
            self.assertTrue(self.say("build nand " + gate_text((inputs, 1))))

    def test_no_text_ahead_of_what_is_asked(self):
        self.refused(NoText, "made great x")
        self.refused(NoText, "build and x")
        self.refused(NoText, "build and 0:1")
        self.refused(NoText, "least and 4:0110100110010110")


class Asked(DeskCase):
    def test_made(self):
        self.assertEqual(self.say("made and 2:0111"), "cant 4: 0001 0101 0011 by 0101 0011")
        self.assertEqual(self.say("made full 1:10"), "made 1; 1:10 0; > 1")
        self.assertEqual(self.say("made empty 3:00110011"), "made 3; > 1")
        self.assertEqual(self.say("made and 0:1"), "cant 1: by ")
        self.assertEqual(self.say("made empty 1:10"), "cant 2: 01 by 01")

    def assert_made(self, gates, wish):
        told = self.say("made a " + gate_text(wish))
        if can_make(tuple(gates), wish):
            self.assertEqual(told[:5], "made ")
            self.assert_circuit(read_circuit(told[5:]), gates, wish)
        else:
            self.assertEqual(told[:5], "cant ")
            relation, rows = told[5:].split(" by ")
            relation = read_relation(relation)
            rows = [sum(2 ** j for j, sign in enumerate(word) if sign == "1") for word in rows.split(" ") if word]
            self.assert_breach(relation, rows, gates, wish)

    def test_made_of_drawn_sets(self):
        draw = random.Random(81)
        for again in range(60):
            gates = [drawn_gate(draw, 2) for number in range(draw.randrange(4))]
            self.say("set a " + set_text(gates))
            for inputs in range(3):
                self.assert_made(gates, (inputs, draw.randrange(limit(inputs))))

    def test_made_is_refused(self):
        self.refused(TooMany, "made great 3:00010111")
        self.assertEqual(self.say("made great 2:0111")[:5], "made ")
        self.assertEqual(self.say("made nand 3:00010111")[:5], "made ")

    def test_build(self):
        draw = random.Random(82)
        for name in ("nand", "full", "mixed"):
            for inputs in range(1, 5):
                for bits in (0, limit(inputs) - 1, draw.randrange(limit(inputs))):
                    told = self.say("build " + name + " " + gate_text((inputs, bits)))
                    self.assertEqual(told, circuit_text(build(STANDING[name], (inputs, bits))))
                    self.assert_circuit(read_circuit(told), STANDING[name], (inputs, bits))

    def test_build_is_refused(self):
        for name, kind in (("and", "low"), ("odd", "low"), ("empty", "low"), ("great", "low"), ("four", "low")):
            self.assertEqual(self.refused(NotAll, "build " + name + " 2:0001").kind, kind)
        self.say("set a 2:1000 2:1100")
        self.assertEqual(gate_of(read_circuit(self.say("build a 1:10"))), NOT)
        self.say("set a 2:0111 0:0 0:1")
        self.assertEqual(self.refused(NotAll, "build a 1:10").kind, "rise")

    def test_kinds(self):
        self.assertEqual(self.say("kinds nand"), "none")
        self.assertEqual(self.say("kinds and"), "low high rise")
        self.assertEqual(self.say("kinds empty"), "low high turn rise even")
        self.assertEqual(self.say("kinds odd"), "low even")
        self.say("set a 1:10")
        self.assertEqual(self.say("kinds a"), "turn even")

    def test_kinds_of_drawn_sets(self):
        draw = random.Random(83)
        for again in range(60):
            gates = [drawn_gate(draw) for number in range(draw.randrange(4))]
            self.say("set a " + set_text(gates))
            kept = kept_kinds(gates)
            self.assertEqual(self.say("kinds a"), " ".join(name for name in KINDS if name in kept) or "none")

    def test_least(self):
        self.assertEqual(self.say("least full 2:0110"), "7")
        self.assertEqual(self.say("least and 3:00000001"), "2")
        self.assertEqual(self.say("least empty 1:01"), "0")
        self.assertEqual(self.say("least nand 2:0110"), str(least_costs([NAND], 2)[6]))

    def test_least_of_drawn_sets(self):
        draw = random.Random(84)
        for again in range(40):
            gates = [drawn_gate(draw, 2) for number in range(draw.randrange(3))]
            self.say("set a " + set_text(gates))
            costs = least_costs(gates, 2)
            for bits in (0, 6, draw.randrange(16), draw.randrange(16)):
                if bits in costs:
                    self.assertEqual(self.say("least a " + gate_text((2, bits))), str(costs[bits]))
                else:
                    self.refused(NotMade, "least a " + gate_text((2, bits)))

    def test_least_is_refused(self):
        self.refused(NotMade, "least and 2:0111")
        self.refused(NotMade, "least nand 0:1")
        self.refused(TooMany, "least great 3:00010111")
        self.refused(TooMany, "least nand 3:00010111")

    def test_keeps(self):
        self.assertEqual(self.say("keeps and rise"), "yes")
        self.assertEqual(self.say("keeps lattice rise"), "yes")
        self.assertEqual(self.say("keeps full rise"), "no 1")
        self.assertEqual(self.say("keeps lattice and"), "no 1")
        self.assertEqual(self.say("keeps full turn"), "no 0")
        self.assertEqual(self.say("keeps empty turn"), "yes")
        self.assertEqual(self.say("keeps full empty"), "yes")

    def test_keeps_of_drawn_sets(self):
        draw = random.Random(85)
        for again in range(100):
            gates = [drawn_gate(draw, 3) for number in range(draw.randrange(7))]
            told = drawn_relation(draw, draw.randrange(4), draw.randrange(6))
            self.say("set a " + set_text(gates))
            self.say("relation a " + relation_text(told))
            breakers = [number for number, gate in enumerate(gates) if first_broken(gate, told) is not None]
            self.assertEqual(self.say("keeps a a"), f"no {breakers[0]}" if breakers else "yes")

    def test_keeps_is_asked_till_one_breaks_it(self):
        self.refused(TooMany, "keeps four many")
        self.say("set a 1:10 4:0000000000000001")
        self.assertFalse(keeps(NOT, MANY))
        self.assertEqual(self.say("keeps a many"), "no 0")
        self.say("set a 4:0000000000000001 1:10")
        self.refused(TooMany, "keeps a many")
        self.say("set a 1:01 4:0000000000000001")
        self.refused(TooMany, "keeps a many")

    def test_closed(self):
        self.assertEqual(self.say("closed s full rise"), "ok")
        self.assertEqual(self.say("table s"), "2: 00 10 01 11")
        self.assertEqual(self.say("table rise"), "2: 00 01 11")
        self.assertEqual(self.say("closed rise full rise"), "ok")
        self.assertEqual(self.say("table rise"), "2: 00 10 01 11")
        self.assertEqual(self.say("closed and and turn"), "ok")
        self.assertEqual(self.say("table and"), "2: 00 10 01")
        self.assertEqual(self.say("show and"), "2:0001")
        self.assertEqual(self.say("closed s empty turn"), "ok")
        self.assertEqual(self.say("table s"), self.say("table turn"))

    def test_closed_of_drawn_ones(self):
        draw = random.Random(86)
        for again in range(60):
            gates = [drawn_gate(draw, 2) for number in range(draw.randrange(4))]
            told = drawn_relation(draw, draw.randrange(5), draw.randrange(4))
            self.say("set a " + set_text(gates))
            self.say("relation r " + relation_text(told))
            self.assertEqual(self.say("closed s a r"), "ok")
            self.assertEqual(self.say("table s"), relation_text(closed(told, gates)))
            self.assertEqual(self.say("keeps a s"), "yes")

    def test_closed_is_refused(self):
        self.say("relation r 12: " + " ".join("0" * k + "1" + "0" * (11 - k) for k in range(12)))
        self.say("set a 2:0111")
        self.refused(TooMany, "closed s a r")
        self.refused(TooMany, "closed r a r")
        self.refused(TooMany, "closed s four many")

    def test_part(self):
        self.assertEqual(self.say("part a mixed"), "ok")
        self.assertEqual(self.say("show a"), "2:0001 1:10")
        self.assertEqual(self.say("show mixed"), "2:0001 1:10 2:0111")
        self.assertEqual(self.say("part mixed mixed"), "ok")
        self.assertEqual(self.say("show mixed"), "2:0001 1:10")
        self.assertEqual(self.say("part and lattice"), "ok")
        self.assertEqual(self.say("show and"), "2:0001 2:0111")
        self.say("set a 1:01 2:0101")
        self.assertEqual(self.say("part b a"), "ok")
        self.assertEqual(self.say("show b"), "")
        self.assertEqual(self.say("part b empty"), "ok")
        self.assertEqual(self.say("show b"), "")

    def test_part_of_drawn_sets(self):
        draw = random.Random(87)
        for again in range(60):
            gates = [drawn_gate(draw, 2) for number in range(draw.randrange(7))]
            self.say("set a " + set_text(gates))
            self.assertEqual(self.say("part b a"), "ok")
            self.assertEqual(self.say("show b"), set_text([gates[told[0]] for told in least_part(gates)[0]]))
            self.assertEqual(self.say("same a b"), "yes")

    def test_part_is_refused(self):
        self.refused(TooMany, "part a four")
        self.refused(TooMany, "part four four")
        self.say("set b 2:0001 2:0110 3:00010111")
        self.refused(TooMany, "part a b")
        self.refused(TooMany, "part b b")

    def test_same(self):
        self.assertEqual(self.say("same nand full"), "yes")
        self.assertEqual(self.say("same and lattice"), "no")
        self.assertEqual(self.say("same lattice and"), "no")
        self.assertEqual(self.say("same and and"), "yes")
        self.assertEqual(self.say("same empty empty"), "yes")
        self.assertEqual(self.say("same empty and"), "no")
        self.refused(TooMany, "same four and")
        self.refused(TooMany, "same and four")
        self.say("set a 3:00010111")
        self.refused(TooMany, "same a great")

    def test_same_of_drawn_sets(self):
        draw = random.Random(88)
        for again in range(60):
            one, other = [[drawn_gate(draw, 2) for number in range(draw.randrange(4))] for which in range(2)]
            self.say("set a " + set_text(one))
            self.say("set b " + set_text(other))
            self.assertEqual(self.say("same a b"), "yes" if same(one, other)[0] == "same" else "no")
            self.assertEqual(self.say("same b a"), self.say("same a b"))

    def assert_of(self, wish, given):
        self.say("relation s " + relation_text(wish))
        self.say("relation r " + relation_text(given))
        told = self.say("of s r")
        inputs = len(wish[1])
        breakers = [bits for bits in plain_keepers((given,), inputs) if first_broken((inputs, bits), wish) is not None]
        if not breakers:
            self.assertEqual(told, "yes")
        else:
            self.assertEqual(told[:3], "no ")
            gate = read_gate(told[3:])
            self.assertLessEqual(gate[0], 3)
            self.assertIsNone(first_broken(gate, given))
            self.assertIsNotNone(first_broken(gate, wish))

    def test_of(self):
        self.assertEqual(self.say("of equal rise"), "yes")
        self.assertEqual(self.say("of rise rise"), "yes")
        self.assertEqual(self.say("of rise equal")[:3], "no ")
        self.assertEqual(self.say("of empty turn"), "yes")
        self.assertIn(self.say("of empty rise"), ("no 0:0", "no 0:1"))
        self.say("relation r 1: 1")
        self.assertEqual(self.say("of empty r"), "no 0:1")

    def test_of_drawn_ones(self):
        draw = random.Random(89)
        for again in range(120):
            rows = again % 4
            self.assert_of(drawn_relation(draw, draw.randrange(9 if again % 2 else 3), rows),
                           drawn_relation(draw, draw.randrange(5), draw.randrange([17, 17, 9, 5][rows])))

    def test_of_is_refused(self):
        for row in ("relation s 9:", "relation s 2: 00 10 01 11", "relation s 9: 000000000"):
            self.say(row)
            self.refused(TooMany, "of s rise")
        self.say("relation s 5:")
        self.refused(TooMany, "of turn s")
        self.refused(TooMany, "of empty s")
        self.refused(TooMany, "of turn many")
        self.refused(TooMany, "of many many")
        self.assertEqual(self.say("of empty many"), "no 0:0")

    def test_each_row_is_answered(self):
        for row in GOOD:
            self.assertTrue(self.say(row))

    def test_asking_changes_nothing(self):
        kept = all_that_stands(self.desk)
        asked = [row for row in GOOD if row.split(" ")[0] not in ("set", "relation", "closed", "part")]
        first = [self.say(row) for row in asked]
        self.assertEqual(all_that_stands(self.desk), kept)
        self.assertEqual([self.say(row) for row in asked], first)

    def test_what_stands_is_kept_by_what_comes_later(self):
        self.say("closed s full rise")
        self.say("part a mixed")
        self.say("relation rise 1:")
        self.say("set full ")
        self.say("set mixed ")
        self.assertEqual(self.say("table s"), "2: 00 10 01 11")
        self.assertEqual(self.say("show a"), "2:0001 1:10")


class Plain(unittest.TestCase):
    def test_the_plain_reckoning_agrees_with_the_document(self):
        self.assertEqual(row_put(OR, [10, 12], 4), 14)
        self.assertEqual(plain_keepers(((1, (1,)),), 0), (1,))


if __name__ == "__main__":
    unittest.main()
