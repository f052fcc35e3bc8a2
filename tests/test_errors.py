"""Point 3 and the interface of keel/errors.py."""

import unittest

from keel.errors import (
    KeelError,
    NoBounds,
    NoDeed,
    NoLine,
    NoName,
    NoNumber,
    NoSize,
    NoStack,
    NoWeight,
)

OF_A_TEXT = [NoNumber, NoWeight, NoBounds, NoSize, NoName, NoStack, NoDeed]
REFUSALS = OF_A_TEXT + [NoLine]


class Refusals(unittest.TestCase):
    def test_base_stands_under_value_error(self):
        self.assertTrue(issubclass(KeelError, ValueError))
        self.assertIsNot(KeelError, ValueError)

    def test_there_are_eight(self):
        self.assertEqual(len(set(REFUSALS)), 8)
        self.assertNotIn(KeelError, REFUSALS)

    def test_each_stands_under_the_base(self):
        for refusal in REFUSALS:
            with self.subTest(refusal=refusal):
                self.assertTrue(issubclass(refusal, KeelError))
                self.assertTrue(issubclass(refusal, ValueError))

    def test_none_stands_under_another(self):
        for refusal in REFUSALS:
            for other in REFUSALS:
                if refusal is not other:
                    with self.subTest(refusal=refusal, other=other):
                        self.assertFalse(issubclass(refusal, other))

    def test_classes_bear_their_names(self):
        self.assertEqual(
            [refusal.__name__ for refusal in REFUSALS],
            ["NoNumber", "NoWeight", "NoBounds", "NoSize", "NoName", "NoStack", "NoDeed", "NoLine"],
        )

    def test_made_of_a_text(self):
        for refusal in OF_A_TEXT:
            with self.subTest(refusal=refusal):
                self.assertEqual(str(refusal("some words")), "some words")
                with self.assertRaises(refusal):
                    raise refusal("some words")

    def test_no_line_holds_its_line(self):
        for line in [0, 1, 49, 10 ** 30, "a text", "", None, (1, 2), [3]]:
            with self.subTest(line=line):
                self.assertIs(NoLine(line).line, line)

    def test_no_line_is_made_of_one_thing(self):
        with self.assertRaises(TypeError):
            NoLine()
        with self.assertRaises(TypeError):
            NoLine(1, 2)

    def test_each_no_line_has_its_own_line(self):
        one = NoLine(1)
        other = NoLine(2)
        self.assertEqual((one.line, other.line), (1, 2))

    def test_no_line_keeps_its_line_when_raised(self):
        with self.assertRaises(KeelError) as caught:
            raise NoLine(7)
        self.assertEqual(caught.exception.line, 7)


if __name__ == "__main__":
    unittest.main()
