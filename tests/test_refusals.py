import unittest

from lifehold.errors import BadCount, BadTie, CantBe, NoLife
from lifehold.tight import bearing, can_be, earliest, gap, latest, least_set, ring
from lifehold.ways import way_fault

FAR = 10 ** 30 - 1

# Each as it is asked with many and ties; the rest is good where the ties are.
ALL = {
    "way_fault": lambda many, ties: way_fault(many, ties, [5, 5]),
    "can_be": can_be,
    "ring": ring,
    "least_set": least_set,
    "bearing": lambda many, ties: bearing(many, ties, (0, -1, 3)),
    "gap": lambda many, ties: gap(many, ties, 0, -1),
    "earliest": earliest,
    "latest": latest,
}
NO_CANT_BE = ["way_fault", "can_be", "ring", "least_set"]
CANT = [(0, -1, 3), (-1, 0, -2)]
BAD_TIES = [
    (0, 0, 1), (1, 1, 0), (-1, -1, 0), (0, 2, 1), (2, 0, 1), (0, -2, 1), (-2, 0, 1), (FAR, 0, 1), (0, -FAR, 1),
    (0, 1, 10000), (0, 1, -10000), (0, 1, FAR), (0, 1, -FAR), (0, -1, 10000), (-1, 0, -10000), (3, 4, FAR),
    (-3, -4, 0), (), (0,), (0, 1), (0, 1, 2, 3),
]
GOOD_TIES = [(0, 1, -9999), (0, -1, 9999), (-1, 1, -9999), (1, 0, -9999), (1, -1, 0)]


class TestRefusals(unittest.TestCase):
    def refused(self, kind, ask, *things):
        with self.subTest(things=things):
            with self.assertRaises(kind) as caught:
                ask(*things)
            self.assertIs(caught.exception.__class__, kind)

    def test_count(self):
        for ask in ALL.values():
            for many in (0, 11, 12, -1, -2, FAR, -FAR):
                self.refused(BadCount, ask, many, [])

    def test_counts_that_are_good(self):
        for many in range(1, 11):
            for name, ask in ALL.items():
                with self.subTest(name=name, many=many):
                    ask(many, [])

    def test_count_ahead_of_tie(self):
        for ask in ALL.values():
            for ties in ([(0, 0, 0)], [(0, 1, FAR)], [(0, 1, 0)] * 81, CANT):
                self.refused(BadCount, ask, 0, ties)
                self.refused(BadCount, ask, 11, ties)

    def test_ties_that_are_none(self):
        for ask in ALL.values():
            for tie in BAD_TIES:
                self.refused(BadTie, ask, 2, [tie])
                self.refused(BadTie, ask, 2, [(0, 1, 0), tie, (0, 1, 0)])

    def test_ties_at_the_ends_are_good(self):
        for name, ask in ALL.items():
            with self.subTest(name=name):
                ask(2, GOOD_TIES)

    def test_strangers_depend_on_the_count(self):
        for ask in ALL.values():
            self.refused(BadTie, ask, 9, [(9, 0, 0)])
            self.refused(BadTie, ask, 10, [(0, 10, 0)])
            ask(10, [(9, 0, 0)])

    def test_more_than_80(self):
        for ask in ALL.values():
            ask(2, [(0, 1, 0)] * 80)
            self.refused(BadTie, ask, 2, [(0, 1, 0)] * 81)
            self.refused(BadTie, ask, 2, [(0, 1, 0)] * 100)

    def test_tie_ahead_of_cant_be(self):
        for ask in ALL.values():
            self.refused(BadTie, ask, 2, CANT + [(0, 0, 1)])
            self.refused(BadTie, ask, 2, [(0, 5, 1)] + CANT)
            self.refused(BadTie, ask, 2, CANT * 41)

    def test_cant_be(self):
        for name, ask in ALL.items():
            if name in NO_CANT_BE:
                with self.subTest(name=name):
                    ask(2, CANT)
            else:
                self.refused(CantBe, ask, 2, CANT)
                self.refused(CantBe, ask, 2, [(-1, 1, 1)])
                self.refused(CantBe, ask, 2, CANT * 40)

    def test_the_tie_more(self):
        for tie in BAD_TIES:
            self.refused(BadTie, bearing, 2, [], tie)
            self.refused(BadTie, bearing, 2, CANT, tie)
            self.refused(BadCount, bearing, 0, CANT, tie)
        self.refused(CantBe, bearing, 2, CANT, (0, 1, 0))
        self.refused(CantBe, bearing, 2, CANT, (0, -1, 3))
        self.refused(BadTie, bearing, 2, [(0, 1, 0)] * 81, (0, 1, 0))

    def test_no_life(self):
        for one, other in ((2, 0), (0, 2), (-2, 0), (0, -2), (FAR, 0), (0, -FAR), (2, 2), (-2, -2), (-1, 2), (FAR, FAR)):
            self.refused(NoLife, gap, 2, [], one, other)
            self.refused(CantBe, gap, 2, CANT, one, other)
            self.refused(BadTie, gap, 2, [(0, 0, 0)], one, other)
            self.refused(BadCount, gap, 11, [(0, 0, 0)], one, other)

    def test_refused_ties_stay(self):
        for ask in ALL.values():
            ties = CANT + [(0, 0, 1)]
            with self.assertRaises(BadTie):
                ask(2, ties)
            self.assertEqual(ties, CANT + [(0, 0, 1)])


if __name__ == "__main__":
    unittest.main()
