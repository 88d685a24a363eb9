import unittest

from lifehold import errors

UNDER_HOLD_ERROR = [
    "BadDay", "BadCount", "BadTie", "CantBe", "BadRow", "BadName", "Taken", "Full", "Twice",
    "GivenUp", "Held", "Idle", "Against", "BadText",
]
UNDER_MISSING = ["NoLife", "NoHolding", "NoPresentment", "NoPlace", "Nothing"]


class TestClasses(unittest.TestCase):
    def test_the_two_heads(self):
        self.assertEqual(errors.HoldError.__bases__, (ValueError,))
        self.assertEqual(errors.Missing.__bases__, (LookupError,))

    def test_each_stands_straight_under_its_head(self):
        for head, names in ((errors.HoldError, UNDER_HOLD_ERROR), (errors.Missing, UNDER_MISSING)):
            for name in names:
                with self.subTest(name=name):
                    kind = getattr(errors, name)
                    self.assertEqual(kind.__bases__, (head,))
                    self.assertEqual(kind.__name__, name)
                    self.assertEqual(kind.__module__, "lifehold.errors")

    def test_each_is_raised_and_caught(self):
        for name in UNDER_HOLD_ERROR + UNDER_MISSING:
            if name in ("Against", "BadText"):
                continue
            with self.subTest(name=name):
                kind = getattr(errors, name)
                with self.assertRaises(kind):
                    raise kind("why")


class TestFields(unittest.TestCase):
    def test_against(self):
        numbers = [2, 5, 10 ** 29]
        error = errors.Against(numbers)
        self.assertEqual(error.numbers, [2, 5, 10 ** 29])
        self.assertIsInstance(error.numbers, list)

    def test_against_keeps_a_copy(self):
        numbers = [2, 5]
        error = errors.Against(numbers)
        numbers.append(7)
        self.assertEqual(error.numbers, [2, 5])
        error.numbers.append(9)
        self.assertEqual(numbers, [2, 5, 7])
        self.assertFalse(any(thing is numbers for thing in error.args))

    def test_against_nothing(self):
        self.assertEqual(errors.Against([]).numbers, [])

    def test_bad_text(self):
        for at in (0, 7, 10 ** 29):
            self.assertEqual(errors.BadText(at).at, at)

    def test_fields_come_through_a_raise(self):
        with self.assertRaises(errors.HoldError) as caught:
            raise errors.Against([3])
        self.assertEqual(caught.exception.numbers, [3])
        with self.assertRaises(errors.HoldError) as caught:
            raise errors.BadText(4)
        self.assertEqual(caught.exception.at, 4)


if __name__ == "__main__":
    unittest.main()
