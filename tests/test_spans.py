import random
import unittest

from lifehold.errors import BadDay, BadText
from lifehold.spans import Span, joined, read_span

FAR = 10 ** 30 - 1


def some_spans(seed, count, top=40):
    chance = random.Random(seed)
    told = []
    for _ in range(count):
        first = chance.randint(0, top)
        told.append(Span(first, first + chance.randint(1, 8)))
    return told


class TestMaking(unittest.TestCase):
    def test_good_ends(self):
        for first, until in ((0, 1), (0, 10000), (3, 42), (9998, 9999), (9998, 10000), (9999, 10000)):
            with self.subTest(first=first, until=until):
                span = Span(first, until)
                self.assertEqual((span.first, span.until), (first, until))

    def test_bad_ends(self):
        bad = [
            (-1, 5), (-1, 0), (0, 0), (5, 5), (6, 5), (9999, 9999), (10000, 10000), (10000, 10001),
            (9999, 10001), (0, 10001), (0, -1), (0, FAR), (-FAR, 5), (-FAR, FAR), (FAR, FAR + 1), (FAR, 0),
        ]
        for first, until in bad:
            with self.subTest(first=first, until=until):
                with self.assertRaises(BadDay):
                    Span(first, until)

    def test_every_pair_about_the_ends(self):
        numbers = [-FAR, -2, -1, 0, 1, 2, 9998, 9999, 10000, 10001, FAR]
        for first in numbers:
            for until in numbers:
                with self.subTest(first=first, until=until):
                    if 0 <= first <= 9999 and first < until <= 10000:
                        self.assertEqual(Span(first, until).until, until)
                    else:
                        with self.assertRaises(BadDay):
                            Span(first, until)

    def test_arguments_may_be_named(self):
        self.assertEqual(Span(until=9, first=2), Span(2, 9))


class TestShowing(unittest.TestCase):
    def test_equal(self):
        self.assertTrue(Span(3, 42) == Span(3, 42))
        self.assertFalse(Span(3, 42) != Span(3, 42))
        self.assertFalse(Span(3, 42) == Span(3, 43))
        self.assertFalse(Span(3, 42) == Span(2, 42))
        self.assertTrue(Span(3, 42) != Span(4, 42))

    def test_equal_to_nothing_else(self):
        for other in (None, 3, "0003-0041", (3, 42), [3, 42], "Span(3, 42)", {"first": 3, "until": 42}):
            with self.subTest(other=other):
                self.assertFalse(Span(3, 42) == other)
                self.assertFalse(other == Span(3, 42))
                self.assertTrue(Span(3, 42) != other)

    def test_equal_in_a_list(self):
        self.assertTrue([Span(1, 2), Span(3, 4)] == [Span(1, 2), Span(3, 4)])
        self.assertFalse([Span(1, 2)] == [Span(1, 3)])
        self.assertIn(Span(3, 4), [1, None, Span(3, 4)])
        self.assertNotIn(Span(3, 5), [(3, 5), "0003-0004", Span(3, 4)])

    def test_len(self):
        for first, until in ((0, 1), (0, 10000), (3, 42), (9999, 10000)):
            self.assertEqual(len(Span(first, until)), until - first)

    def test_str(self):
        self.assertEqual(str(Span(3, 42)), "0003-0041")
        self.assertEqual(str(Span(0, 1)), "0000-0000")
        self.assertEqual(str(Span(0, 10000)), "0000-9999")
        self.assertEqual(str(Span(9999, 10000)), "9999-9999")
        self.assertEqual(str(Span(120, 1001)), "0120-1000")

    def test_repr(self):
        self.assertEqual(repr(Span(3, 42)), "Span(3, 42)")
        self.assertEqual(repr(Span(0, 10000)), "Span(0, 10000)")


class TestMethods(unittest.TestCase):
    def test_has(self):
        span = Span(3, 42)
        for day, there in ((2, False), (3, True), (4, True), (40, True), (41, True), (42, False), (43, False)):
            self.assertIs(span.has(day), there)

    def test_has_far_numbers(self):
        for day in (-1, 10000, FAR, -FAR):
            self.assertIs(Span(0, 10000).has(day), False)
        self.assertIs(Span(0, 10000).has(0), True)
        self.assertIs(Span(0, 10000).has(9999), True)

    def test_common(self):
        cases = [
            ((0, 5), (5, 9), None), ((0, 5), (4, 9), (4, 5)), ((0, 9), (3, 5), (3, 5)), ((0, 9), (0, 9), (0, 9)),
            ((0, 9), (0, 5), (0, 5)), ((0, 9), (5, 9), (5, 9)), ((0, 1), (9999, 10000), None),
            ((0, 10000), (9999, 10000), (9999, 10000)), ((2, 4), (5, 9), None),
        ]
        for left, right, both in cases:
            for one, other in ((left, right), (right, left)):
                with self.subTest(one=one, other=other):
                    mine, yours = Span(*one), Span(*other)
                    want = None if both is None else Span(*both)
                    self.assertEqual(mine.common(yours), want)
                    self.assertEqual((mine, yours), (Span(*one), Span(*other)))

    def test_common_day_by_day(self):
        spans = some_spans(1, 60, top=12)
        for one in spans:
            for other in spans:
                days = [day for day in range(30) if one.has(day) and other.has(day)]
                both = one.common(other)
                self.assertEqual([] if both is None else list(range(both.first, both.until)), days)

    def test_moved(self):
        span = Span(3, 42)
        for by, want in ((0, (3, 42)), (1, (4, 43)), (-3, (0, 39)), (9958, (9961, 10000)), (-1, (2, 41))):
            self.assertEqual(span.moved(by), Span(*want))
        self.assertEqual(span, Span(3, 42))

    def test_moved_beyond(self):
        span = Span(3, 42)
        for by in (-4, 9959, FAR, -FAR, 10000, -10000):
            with self.subTest(by=by):
                with self.assertRaises(BadDay):
                    span.moved(by)
        self.assertEqual(span, Span(3, 42))
        with self.assertRaises(BadDay):
            Span(0, 10000).moved(1)
        with self.assertRaises(BadDay):
            Span(0, 10000).moved(-1)

    def test_what_is_told_is_another_span(self):
        span = Span(3, 42)
        self.assertIsNot(span.moved(0), span)
        self.assertIsNot(span.common(span), span)


class TestJoined(unittest.TestCase):
    def check(self, pairs, want):
        handed = [Span(*pair) for pair in pairs]
        told = joined(handed)
        self.assertEqual(told, [Span(*pair) for pair in want])
        self.assertEqual(handed, [Span(*pair) for pair in pairs])
        self.assertIsNot(told, handed)

    def test_none_and_one(self):
        self.check([], [])
        self.check([(3, 42)], [(3, 42)])

    def test_touching(self):
        self.check([(0, 5), (5, 9)], [(0, 9)])
        self.check([(5, 9), (0, 5)], [(0, 9)])
        self.check([(0, 5), (6, 9)], [(0, 5), (6, 9)])
        self.check([(6, 9), (0, 5)], [(0, 5), (6, 9)])

    def test_within_and_twice(self):
        self.check([(0, 9), (3, 5)], [(0, 9)])
        self.check([(3, 5), (0, 9), (9, 12)], [(0, 12)])
        self.check([(0, 9), (0, 9)], [(0, 9)])
        self.check([(0, 3), (0, 9), (4, 5), (20, 21)], [(0, 9), (20, 21)])
        self.check([(0, 10000), (9999, 10000), (0, 1)], [(0, 10000)])

    def test_a_hundred(self):
        self.check([(k, k + 1) for k in range(99, -1, -1)], [(0, 100)])
        self.check([(3 * k, 3 * k + 2) for k in range(99, -1, -1)], [(3 * k, 3 * k + 2) for k in range(100)])

    def test_day_by_day(self):
        for seed in range(200):
            handed = some_spans(seed, seed % 12)
            told = joined(handed)
            with self.subTest(handed=handed):
                for day in range(60):
                    self.assertEqual(any(s.has(day) for s in told), any(s.has(day) for s in handed))
                # With a day free between each two there can't be fewer.
                for left, right in zip(told, told[1:]):
                    self.assertLess(left.until, right.first)

    def test_the_told_list_is_free(self):
        handed = [Span(0, 5)]
        told = joined(handed)
        told[0].first = 4
        told.append(Span(7, 8))
        self.assertEqual(handed, [Span(0, 5)])
        self.assertEqual(joined(handed), [Span(0, 5)])


class TestReadSpan(unittest.TestCase):
    def test_good(self):
        for text, first, until in (
            ("0003-0041", 3, 42), ("0000-0000", 0, 1), ("0000-9999", 0, 10000),
            ("9999-9999", 9999, 10000), ("0099-0100", 99, 101),
        ):
            self.assertEqual(read_span(text), Span(first, until))

    def test_there_and_back(self):
        for span in some_spans(5, 100, top=9900):
            self.assertEqual(read_span(str(span)), span)

    def refused(self, text):
        with self.subTest(text=text):
            with self.assertRaises(BadText) as caught:
                read_span(text)
            self.assertEqual(caught.exception.at, 0)

    def test_spoilt(self):
        for text in (
            "", "-", "0041-0003", "0001-0000", "003-0041", "0003-041", "3-41", "00003-0041", "0003-00041",
            "0003-0041 ", " 0003-0041", "0003 -0041", "0003- 0041", " 003-0041", "0003- 041", "003 -0041",
            "0003-0041\n", "\n0003-0041", "0003-0041-", "0003--0041", "0003--041", "-003-0041", "+003-0041",
            "0003-+041", "0_03-0041", "0003-0_41", "0003:0041", "0003_0041", "00030041", "0003 0041", "0003-",
            "-0041", "0003", "0003-0041-0050", "0x03-0041", "000a-0041", "0003-00e1", "0003.0-041", "0000-10000",
            "9999-10000", "Span(3, 42)", "0003-0041" * 400, "0" * 4000, " " * 9, "\n" * 9,
        ):
            self.refused(text)

    def test_each_sign_out_in_and_other(self):
        good = "0123-4567"
        for at in range(len(good)):
            self.refused(good[:at] + good[at + 1:])
            for sign in "x -+_.\n~":
                if sign != good[at]:
                    self.refused(good[:at] + sign + good[at + 1:])
        for at in range(len(good) + 1):
            for sign in "0x -+_.\n~":
                self.refused(good[:at] + sign + good[at:])


if __name__ == "__main__":
    unittest.main()
