import random
import unittest
from itertools import product

from gatekin.circuits import is_circuit
from gatekin.errors import NoText
from gatekin.gates import is_gate
from gatekin.texts import (
    circuit_text, gate_text, read_circuit, read_gate, read_relation, read_set, relation_text, set_text,
)
from tests.plain import (
    columns_of, drawn_circuit, drawn_gate, drawn_relation, is_relation, kinds_within, long_circuit, some_gates,
)

LOW, HIGH, NOT, SAME = (0, 0), (0, 1), (1, 1), (1, 2)
AND = (2, 8)

NO_TEXTS = [None, True, False, 0, 1, 28, 0.5, [], ["2:0001"], (), (2, 8), {}, {"2:0001"}, b"2:0001", object(), str]
# Signs that stand in such texts, and signs that come near: figures of other alphabets, other blanks, signs of numbers.
SIGNS = "012345679:;> -+_.x\n\t" + "\u0661\uff11\u00b2\u00a0\u2003"


def figures(row, width):
    return "".join(str(value) for value in columns_of(row, width))


def plain_gate(gate):
    return str(gate[0]) + ":" + figures(gate[1], 2 ** gate[0])


def plain_relation(relation):
    width, rows = relation
    return str(width) + ":" + "".join(" " + (figures(row, width) if width else "-") for row in rows)


def plain_circuit(circuit):
    inputs, steps, out = circuit
    told = str(inputs) + "; "
    for gate, ends in steps:
        told += plain_gate(gate) + "".join(" " + str(end) for end in ends) + "; "
    return told + "> " + str(out)


def plain_set(gates):
    return " ".join(plain_gate(gate) for gate in gates)


def is_set(thing):
    return type(thing) is list and len(thing) <= 6 and all(is_gate(gate) for gate in thing)


class Texts(unittest.TestCase):
    """What the four have in common."""

    def assert_both_ways(self, write, read, thing, text):
        kept = repr(thing)
        told = write(thing)
        self.assertIs(type(told), str)
        self.assertEqual(told, text)
        again = read(text)
        self.assertEqual(again, thing)
        self.assertEqual(kinds_within(again), kinds_within(thing))
        self.assertEqual(repr(thing), kept)

    def refuse(self, read, texts):
        for text in texts:
            with self.subTest(text=text):
                self.assertRaises(NoText, read, text)

    def assert_no_other(self, write, read, good, text):
        """Told is whether the text is read; then it is written again as it was."""
        try:
            told = read(text)
        except NoText:
            return 0
        self.assertTrue(good(told), text)
        self.assertEqual(write(told), text)
        return 1

    def assert_nothing_near(self, write, read, good, text):
        """A sign taken away, set in or exchanged, or two signs exchanged."""
        for place in range(len(text) + 1):
            ahead, behind = text[:place], text[place:]
            self.assert_no_other(write, read, good, ahead + behind[1:])
            self.assert_no_other(write, read, good, ahead + behind[1:2] + behind[:1] + behind[2:])
            for sign in SIGNS:
                self.assert_no_other(write, read, good, ahead + sign + behind)
                self.assert_no_other(write, read, good, ahead + sign + behind[1:])

    def count_short(self, write, read, good, signs, length):
        return sum(self.assert_no_other(write, read, good, "".join(text)) for text in product(signs, repeat=length))


class Gates(Texts):
    def test_examples(self):
        self.assertEqual(gate_text(AND), "2:0001")
        self.assertEqual(gate_text(NOT), "1:10")
        self.assertEqual([gate_text(LOW), gate_text(HIGH)], ["0:0", "0:1"])
        self.assertEqual(gate_text((3, 2)), "3:01000000")
        self.assertEqual(gate_text((4, 32769)), "4:1000000000000001")
        self.assertEqual(read_gate("2:0001"), AND)
        self.assertEqual(read_gate("2:0100"), (2, 2))

    def test_each(self):
        for inputs in range(5):
            for gate in some_gates(inputs):
                self.assert_both_ways(gate_text, read_gate, gate, plain_gate(gate))

    def test_wrong_count_of_figures(self):
        self.refuse(read_gate, [
            "0:", "0:00", "1:1", "1:100", "2:000", "2:00010", "2:", "3:0001", "3:000000011", "4:0", "4:" + "0" * 15,
            "4:" + "0" * 17, "0:01", "2:0000000000000001",
        ])

    def test_wrong_inputs(self):
        self.refuse(read_gate,
                    ["5:" + "0" * 32, "6:" + "0" * 64, ":0", ":", "", "10:" + "0" * 1024, "x:0", "-1:0", "-1:"])

    def test_wrong_numbers(self):
        self.refuse(read_gate, [
            "02:0001", "00:0", "+2:0001", "-0:0", "2.0:0001", "2_:0001", "0x2:0001", "\uff12:0001", "\u0662:0001",
            "\u00b2:0001", "2e0:0001",
        ])

    def test_wrong_figures(self):
        self.refuse(read_gate, [
            "2:0002", "2:000x", "2:00-1", "2:+001", "2:000\uff11", "2:000\u0661", "2:00 1", "1:1\n", "0:\u00b9", "1:0b",
            "2:0_01",
        ])

    def test_blanks(self):
        self.refuse(read_gate,
                    [" 2:0001", "2:0001 ", "2: 0001", "2 :0001", "2:00 01", "2:0001\n", "\t2:0001", " ", "2 0001"])

    def test_other_texts(self):
        self.refuse(read_gate, [
            "2", "0001", "2::0001", "2:0001:", ":2:0001", "2;0001", "(2, 8)", "2:0001 2:0001", "-", "1" * 5000 + ":0",
            "0" * 5000, ":" * 300,
        ])

    def test_no_texts(self):
        self.refuse(read_gate, NO_TEXTS)

    def test_nothing_near(self):
        for gate in (LOW, HIGH, NOT, AND, (3, 202), (4, 27030)):
            self.assert_nothing_near(gate_text, read_gate, is_gate, gate_text(gate))

    def test_all_short_texts(self):
        told = [self.count_short(gate_text, read_gate, is_gate, "012:- ", length) for length in range(7)]
        self.assertEqual(told, [0, 0, 0, 2, 4, 0, 16])


class Relations(Texts):
    def test_examples(self):
        self.assertEqual(relation_text((2, (0, 2, 3))), "2: 00 01 11")
        self.assertEqual(relation_text((1, ())), "1:")
        self.assertEqual(relation_text((0, ())), "0:")
        self.assertEqual(relation_text((0, (0,))), "0: -")
        self.assertEqual(relation_text((16, (1, 32768))), "16: 1000000000000000 0000000000000001")
        self.assertEqual(read_relation("2: 00 01 11"), (2, (0, 2, 3)))
        self.assertEqual(read_relation("0: -"), (0, (0,)))
        self.assertEqual(read_relation("3: 100 010 001"), (3, (1, 2, 4)))

    def test_all_widths(self):
        draw = random.Random(70)
        for width in range(17):
            for count in (0, 1, 2, 3, 9, 255, 256):
                told = drawn_relation(draw, width, count)
                self.assert_both_ways(relation_text, read_relation, told, plain_relation(told))

    def test_each_of_two_columns(self):
        for marks in product((False, True), repeat=4):
            told = (2, tuple(row for row, mark in enumerate(marks) if mark))
            self.assert_both_ways(relation_text, read_relation, told, plain_relation(told))

    def test_rows_that_do_not_rise(self):
        self.refuse(read_relation, [
            "2: 01 10", "2: 00 00", "2: 11 00", "2: 00 01 01", "1: 1 0", "1: 0 1 0", "0: - -", "3: 001 100",
            "2: 00 11 01", "2: 11 11",
        ])
        self.assertEqual(read_relation("2: 10 01"), (2, (1, 2)))

    def test_wrong_count_of_figures(self):
        self.refuse(read_relation, [
            "2: 0", "2: 000", "2: 00 1", "2: 00 011", "1: 00", "1: -", "2: -", "0: 0", "0: 1", "0: --", "3: 00 11",
            "16: " + "0" * 15, "16: " + "0" * 17,
        ])

    def test_wrong_widths(self):
        self.refuse(read_relation, ["17:", "17: " + "0" * 17, "-1:", "", ":", ": 0", "x:", "999999:", "1" * 5000 + ":"])
        self.assertEqual(read_relation("16:"), (16, ()))

    def test_wrong_numbers(self):
        self.refuse(read_relation, [
            "02: 00", "00:", "016:", "+2: 00", "-0:", "1_6:", "\uff12: 00", "\u0661:", "\u00b9:", "2.: 00", "0x1:",
        ])

    def test_wrong_figures(self):
        self.refuse(read_relation, [
            "2: 02", "2: 0x", "1: \u0661", "1: \uff11", "2: 0-", "2: +1", "1: \u00b2", "2: 00 0\n", "0: \u2212",
        ])

    def test_blanks(self):
        self.refuse(read_relation, [
            "2:00", "2:00 01", "2:  00", "2: 00  01", "2: 00 ", "2: ", "1: ", "0: ", "0:-", "0: - ", " 2: 00", "2 : 00",
            "2: 00 01 11 ", "2: 00\n01", "2:\t00", "2: 0 0", "2: 0001", "1:\n",
        ])

    def test_more_than_256_rows(self):
        told = (9, tuple(range(0, 512, 2)))
        self.assert_both_ways(relation_text, read_relation, told, plain_relation(told))
        self.refuse(read_relation, [
            plain_relation((9, tuple(range(257)))), plain_relation((9, tuple(range(512)))),
            plain_relation((10, tuple(range(300)))),
        ])

    def test_other_texts(self):
        self.refuse(read_relation,
                    ["2", "2: 00: 01", "2:: 00", "2; 00", "2: 00, 01", "-", "(2, ())", ":" * 9, "2: 00 > 01"])

    def test_no_texts(self):
        self.refuse(read_relation, NO_TEXTS + [(2, (0, 3)), [2, [0, 3]]])

    def test_nothing_near(self):
        for told in ((0, ()), (0, (0,)), (1, ()), (1, (0, 1)), (2, (0, 2, 3)), (3, (1, 6)), (12, (5, 800)), (16, (9,))):
            self.assert_nothing_near(relation_text, read_relation, is_relation, relation_text(told))

    def test_all_short_texts(self):
        told = [self.count_short(relation_text, read_relation, is_relation, "012: -", length) for length in range(7)]
        # Without rows those of widths 0 to 2, then 10 to 12; one or two rows of one column; - ; one row of two columns.
        self.assertEqual(told, [0, 0, 3, 3, 3, 4, 1])


class Circuits(Texts):
    def test_examples(self):
        circuit = (2, ((AND, (0, 1)), (NOT, (2,))), 3)
        self.assertEqual(circuit_text(circuit), "2; 2:0001 0 1; 1:10 2; > 3")
        self.assertEqual(circuit_text((1, (), 0)), "1; > 0")
        self.assertEqual(circuit_text((0, ((HIGH, ()),), 0)), "0; 0:1; > 0")
        self.assertEqual(read_circuit("2; 2:0001 0 1; 1:10 2; > 3"), circuit)
        self.assertEqual(read_circuit("4; > 3"), (4, (), 3))

    def test_drawn_ones(self):
        draw = random.Random(71)
        for inputs in range(5):
            for count in (1, 2, 3, 7, 20, 120):
                told = drawn_circuit(draw, inputs, count)
                self.assert_both_ways(circuit_text, read_circuit, told, plain_circuit(told))

    def test_each_gate_as_a_step(self):
        for inputs in range(5):
            for gate in some_gates(inputs, 40):
                told = (4, ((gate, (3, 0, 2, 2)[:inputs]),), 4)
                self.assert_both_ways(circuit_text, read_circuit, told, plain_circuit(told))

    def test_without_steps(self):
        for inputs in range(1, 5):
            for out in range(inputs):
                self.assert_both_ways(circuit_text, read_circuit, (inputs, (), out), f"{inputs}; > {out}")

    def test_600_steps(self):
        for inputs in range(5):
            told = long_circuit(inputs, 600)
            self.assert_both_ways(circuit_text, read_circuit, told, plain_circuit(told))
        self.assertEqual(read_circuit("0; " + "0:0; " * 600 + "> 599"), (0, ((LOW, ()),) * 600, 599))

    def test_more_than_600_steps(self):
        self.refuse(read_circuit, [
            "0; " + "0:0; " * 601 + "> 0", "4; " + "0:0; " * 700 + "> 700", plain_circuit(long_circuit(2, 601)),
        ])

    def test_wires_that_are_none(self):
        self.refuse(read_circuit, [
            "1; > 1", "0; > 0", "4; > 4", "2; > 2", "1; > -1", "1; 1:10 1; > 1", "1; 1:10 0; > 2", "0; 1:10 0; > 0",
            "2; 2:0001 0 2; > 2", "2; 2:0001 2 0; > 2", "2; 2:0001 0 1; 1:10 3; > 3", "1; 1:10 -1; > 1",
            "1; 1:10 1; 1:10 0; > 0", "0; 0:1; > 1", "1; > 99999999999999999999", "1; > " + "9" * 5000,
        ])

    def test_wrong_count_of_wires(self):
        self.refuse(read_circuit, [
            "2; 2:0001 0; > 2", "2; 2:0001; > 2", "2; 2:0001 0 1 1; > 2", "1; 0:1 0; > 1", "1; 1:10; > 1",
            "1; 1:10 0 0; > 0",
        ])

    def test_wrong_inputs(self):
        self.refuse(read_circuit,
                    ["5; > 0", "-1; > 0", "; > 0", "x; > 0", "10; > 0", " ; > 0", "1 1; > 0", "1:10; > 0"])

    def test_wrong_gates(self):
        self.refuse(read_circuit, [
            "2; 2:000 0 1; > 2", "2; 2:00010 0 1; > 2", "2; 5:0001 0 1; > 0", "2; 2:0002 0 1; > 2", "2; 20001 0 1; > 2",
            "2; 02:0001 0 1; > 2", "1; 1 :10 0; > 1", "1;  0; > 0",
        ])

    def test_wrong_numbers(self):
        self.refuse(read_circuit, [
            "02; > 0", "+2; > 0", "2; > 00", "2; > 01", "2; > +1", "2; > -0", "2; 1:10 00; > 0", "2; 1:10 01; > 0",
            "2; 1:10 +1; > 0", "\uff12; > 0", "2; > \uff11", "2; > \u0661", "2; 1:10 \u0660; > 0", "2; > 0x1",
            "2; > 1_0", "2; > \u00b9", "2; > 1.0", "2; > ", "2; 1:10 ; > 0",
        ])

    def test_blanks(self):
        self.refuse(read_circuit, [
            " 1; > 0", "1; > 0 ", "1;> 0", "1 ; > 0", "1;  > 0", "1; >0", "1; >  0", "1; > 0\n", "2; 2:0001  0 1; > 2",
            "2; 2:0001 0  1; > 2", "2; 2:0001 0 1 ; > 2", "2; 2:0001 0 1;> 2", "2;2:0001 0 1; > 2",
            "2;  2:0001 0 1; > 2", "2; 2:0001 01; > 2", "2; 2:00010 1; > 2", "1;\n> 0", "1;\t> 0",
            "2; 2: 0001 0 1; > 2",
        ])

    def test_other_texts(self):
        self.refuse(read_circuit, [
            "", "1", "> 0", "1; 0", "1; ; > 0", "1; > 0; > 0", "1; > 0;", "1; > 0; ", "; 1; > 0", "1, > 0", "1; < 0",
            "1; >> 0", "1; > 0 0", "1; >", "1; > 0; 1:10 0", "1; 0; > 0", "1;; > 0", ";", "; ", "; ; ", "2; 2:0001 0 1",
            "2:0001",
        ])

    def test_no_texts(self):
        self.refuse(read_circuit, NO_TEXTS + [(1, (), 0), ["1", "> 0"]])

    def test_nothing_near(self):
        for told in ((1, (), 0), (0, ((HIGH, ()),), 0), (2, ((AND, (0, 1)), (NOT, (2,))), 3),
                     (3, (((3, 202), (2, 0, 1)), (LOW, ())), 4), long_circuit(2, 12)):
            self.assert_nothing_near(circuit_text, read_circuit, is_circuit, circuit_text(told))

    def test_all_short_texts(self):
        told = [self.count_short(circuit_text, read_circuit, is_circuit, "01; >", length) for length in range(8)]
        self.assertEqual(told, [0, 0, 0, 0, 0, 0, 1, 0])


class Sets(Texts):
    def test_examples(self):
        self.assertEqual(set_text([]), "")
        self.assertEqual(set_text([AND, NOT]), "2:0001 1:10")
        self.assertEqual(set_text([AND, AND, LOW]), "2:0001 2:0001 0:0")
        self.assertEqual(read_set(""), [])
        self.assertEqual(read_set("1:10 2:0001"), [NOT, AND])

    def test_drawn_ones(self):
        draw = random.Random(72)
        for count in range(7):
            for again in range(20):
                told = [drawn_gate(draw) for number in range(count)]
                self.assert_both_ways(set_text, read_set, told, plain_set(told))

    def test_alike_gates_and_any_order(self):
        for told in ([AND] * 6, [NOT, AND], [AND, NOT], [HIGH, LOW, HIGH], [(4, 65535)] * 6):
            self.assert_both_ways(set_text, read_set, told, plain_set(told))

    def test_more_than_six(self):
        self.refuse(read_set, [plain_set([LOW] * 7), plain_set([NOT] * 12), plain_set([(4, 1)] * 100)])

    def test_blanks(self):
        self.refuse(read_set, [
            " ", "  ", " 1:10", "1:10 ", "1:10  0:0", "1:10 0:0 ", "1:100:0", "1:10\n0:0", "1:10\t0:0", "\n", "1: 10",
            "1:10\n",
        ])

    def test_wrong_gates(self):
        self.refuse(read_set, [
            "1:1", "1:10 2:000", "x", "2:0001 x 1:10", "5:" + "0" * 32, "01:10", "+1:10", "1:1\uff10", "\u0661:10",
            "1:10, 0:0", "1:10; 0:0", "-", "none", "0", "2:0001 1:12",
        ])

    def test_no_texts(self):
        self.refuse(read_set, NO_TEXTS + [[AND], [NOT, AND]])

    def test_nothing_near(self):
        for told in ([], [LOW], [NOT, AND], [HIGH] * 6, [(3, 150), SAME]):
            self.assert_nothing_near(set_text, read_set, is_set, set_text(told))

    def test_all_short_texts(self):
        told = [self.count_short(set_text, read_set, is_set, "012: -", length) for length in range(7)]
        self.assertEqual(told, [1, 0, 0, 2, 4, 0, 16])
        self.assertEqual(self.count_short(set_text, read_set, is_set, "01: ", 7), 4)

    def test_each_list_is_the_askers_own(self):
        told = read_set("2:0001 1:10")
        told.append(LOW)
        self.assertEqual(read_set("2:0001 1:10"), [AND, NOT])
        none = read_set("")
        none.append(LOW)
        self.assertEqual(read_set(""), [])


if __name__ == "__main__":
    unittest.main()
