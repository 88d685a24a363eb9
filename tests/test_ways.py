import random
import unittest

import brute
from lifehold.errors import BadCount, BadTie
from lifehold.ways import way_fault

FAR = 10 ** 30 - 1


class TestWayFault(unittest.TestCase):
    def test_none(self):
        self.assertIsNone(way_fault(1, [], [0]))
        self.assertIsNone(way_fault(1, [], [9999]))
        self.assertIsNone(way_fault(10, [], list(range(10))))
        self.assertIsNone(way_fault(2, [(0, 1, 5), (1, -1, 3), (-1, 0, -8)], [8, 3]))

    def test_many(self):
        self.assertEqual(way_fault(2, [], []), ("many", 0))
        self.assertEqual(way_fault(2, [], [1]), ("many", 1))
        self.assertEqual(way_fault(2, [], [1, 2, 3]), ("many", 3))
        self.assertEqual(way_fault(1, [], [5] * 100), ("many", 100))

    def test_day(self):
        self.assertEqual(way_fault(2, [], [-1, 0]), ("day", 0))
        self.assertEqual(way_fault(2, [], [0, 10000]), ("day", 1))
        self.assertEqual(way_fault(3, [], [9999, FAR, -FAR]), ("day", 1))
        self.assertEqual(way_fault(1, [], [-FAR]), ("day", 0))

    def test_tie(self):
        self.assertEqual(way_fault(2, [(0, 1, 5)], [7, 3]), ("tie", 0))
        self.assertIsNone(way_fault(2, [(0, 1, 4)], [7, 3]))
        self.assertEqual(way_fault(2, [(0, 1, 4), (1, 0, -3)], [7, 3]), ("tie", 1))
        self.assertEqual(way_fault(2, [(0, -1, 7), (1, -1, 4)], [7, 3]), ("tie", 1))
        self.assertEqual(way_fault(2, [(-1, 0, -7), (-1, 0, -6)], [7, 3]), ("tie", 1))
        self.assertEqual(way_fault(2, [(0, 1, 9), (0, 1, 9)], [7, 3]), ("tie", 0))

    def test_the_first_due(self):
        ties = [(0, 1, 5)]
        self.assertEqual(way_fault(2, ties, [FAR, -1, 3]), ("many", 3))
        self.assertEqual(way_fault(2, ties, [3, -1]), ("day", 1))
        self.assertEqual(way_fault(2, ties, [3, 3]), ("tie", 0))

    def test_ties_that_cant_be(self):
        ties = [(0, 1, 1), (1, 0, 1)]
        self.assertEqual(way_fault(2, ties, [4, 4]), ("tie", 0))
        self.assertEqual(way_fault(2, ties, [5, 4]), ("tie", 1))
        self.assertEqual(way_fault(2, ties, [5]), ("many", 1))
        self.assertEqual(way_fault(2, ties, [5, -4]), ("day", 1))

    def test_refusals(self):
        for many in (0, 11, -1, FAR, -FAR):
            with self.assertRaises(BadCount):
                way_fault(many, [(5, 5, FAR)], [])
        for ties in ([(0, 0, 1)], [(0, 1, 10000)], [(0, 2, 1)], [(0, 1, 0)] * 81):
            with self.assertRaises(BadTie):
                way_fault(2, ties, [])
        self.assertIsNone(way_fault(2, [(0, 1, 0)] * 80, [1, 1]))

    def test_what_is_handed_in_stays(self):
        ties, days = [(0, 1, 5), (1, -1, 3)], [7, 3]
        way_fault(2, ties, days)
        self.assertEqual((ties, days), ([(0, 1, 5), (1, -1, 3)], [7, 3]))

    def test_against_plain_going_through(self):
        chance = random.Random(11)
        for _ in range(500):
            many = chance.randint(1, 10)
            way, ties = brute.ties_of_a_way(chance, many, chance.randint(0, 80))
            self.assertIsNone(way_fault(many, ties, way))
            days = [day + chance.choice([0, 0, 1, -1, 40]) for day in way]
            bad_days = [k for k, day in enumerate(days) if day < 0 or day > 9999]
            bad_ties = [k for k, tie in enumerate(ties) if not brute.keeps(days, [tie])]
            want = None
            if bad_days:
                want = ("day", bad_days[0])
            elif bad_ties:
                want = ("tie", bad_ties[0])
            self.assertEqual(way_fault(many, ties, days), want)


if __name__ == "__main__":
    unittest.main()
