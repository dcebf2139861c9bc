import unittest

from gatekin import errors
from gatekin.errors import (
    GateError, NoName, NoRelation, NoRow, NotAll, NotMade, NoText, TooBig, TooMany,
)

PLAIN = (NoRelation, TooMany, TooBig, NotMade, NoText, NoRow)
REFUSALS = PLAIN + (NotAll, NoName)


def raised(error):
    raise error


class Classes(unittest.TestCase):
    def test_gate_error_stands_under_value_error(self):
        self.assertEqual(GateError.__bases__, (ValueError,))

    def test_each_stands_straight_under_gate_error(self):
        self.assertEqual(len(set(REFUSALS)), 8)
        for refusal in REFUSALS:
            with self.subTest(refusal=refusal):
                self.assertEqual(refusal.__bases__, (GateError,))

    def test_none_stands_under_another(self):
        for one in REFUSALS:
            for other in REFUSALS:
                self.assertEqual(issubclass(one, other), one is other)

    def test_names(self):
        names = ["GateError", "NoRelation", "TooMany", "TooBig", "NotAll", "NotMade", "NoText", "NoName", "NoRow"]
        for name in names:
            self.assertEqual(getattr(errors, name).__name__, name)


class Raised(unittest.TestCase):
    def test_taken_by_its_own_name_and_by_those_above(self):
        for refusal in REFUSALS:
            for taken in (refusal, GateError, ValueError):
                with self.subTest(refusal=refusal, taken=taken), self.assertRaises(taken):
                    raised(refusal("word"))

    def test_made_without_words(self):
        for refusal in PLAIN + (GateError,):
            with self.subTest(refusal=refusal), self.assertRaises(refusal):
                raised(refusal())

    def test_not_all_has_its_kind(self):
        for kind in ("low", "high", "turn", "rise", "even"):
            with self.assertRaises(NotAll) as told:
                raised(NotAll(kind))
            self.assertEqual(told.exception.kind, kind)
            self.assertFalse(hasattr(told.exception, "name"))

    def test_no_name_has_its_name(self):
        for name in ("a", "zz", "abcdefgh"):
            with self.assertRaises(NoName) as told:
                raised(NoName(name))
            self.assertEqual(told.exception.name, name)
            self.assertFalse(hasattr(told.exception, "kind"))

    def test_a_field_is_the_objects_own(self):
        one, other = NotAll("low"), NotAll("even")
        self.assertEqual((one.kind, other.kind), ("low", "even"))
        one, other = NoName("a"), NoName("b")
        self.assertEqual((one.name, other.name), ("a", "b"))

    def test_the_fields_are_asked_for(self):
        self.assertRaises(TypeError, NotAll)
        self.assertRaises(TypeError, NoName)


if __name__ == "__main__":
    unittest.main()
