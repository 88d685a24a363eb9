import unittest

from bad import BAD_DAYS, BAD_ROWS, BAD_RUNS, FAR, GOOD_RUNS, RefusalCase
from lifehold.beasts import beasts, beasts_ways
from lifehold.errors import BadCount, BadDay, BadRow, BadTie, CantBe, NoLife
from lifehold.may import enders, may_hold, shown, surely
from lifehold.reach import days_of, fewest_days, fewest_way, most_days, most_way, sure_days
from lifehold.tight import bearing, can_be, earliest, gap, latest, least_set, ring
from lifehold.ways import way_fault

# The doors that are asked about a row and a day, shown with a life behind it; about a row, a life and a run; and
# about a row and a run.
OF_DAY = [may_hold, surely, enders]
OF_LIFE = [days_of, sure_days, fewest_days, most_days, fewest_way, most_way]
OF_ROW = [beasts, beasts_ways]

# Each as it is asked with many, ties and a row; the rest is good where these are.
WITH_ROW = {
    "may_hold": lambda many, ties, row: may_hold(many, ties, row, 5),
    "surely": lambda many, ties, row: surely(many, ties, row, 5),
    "shown": lambda many, ties, row: shown(many, ties, row, 5, 0),
    "enders": lambda many, ties, row: enders(many, ties, row, 5),
    "days_of": lambda many, ties, row: days_of(many, ties, row, 0),
    "sure_days": lambda many, ties, row: sure_days(many, ties, row, 0),
    "fewest_days": lambda many, ties, row: fewest_days(many, ties, row, 0),
    "most_days": lambda many, ties, row: most_days(many, ties, row, 0),
    "fewest_way": lambda many, ties, row: fewest_way(many, ties, row, 0),
    "most_way": lambda many, ties, row: most_way(many, ties, row, 0),
    "beasts": beasts,
    "beasts_ways": beasts_ways,
}


def with_row_of_one(ask):
    return lambda many, ties: ask(many, ties, [0])


# Each as it is asked with many and ties; the rest is good where the ties are.
ALL = {
    "way_fault": lambda many, ties: way_fault(many, ties, [5, 5]),
    "can_be": can_be,
    "ring": ring,
    "least_set": least_set,
    "bearing": lambda many, ties: bearing(many, ties, (0, -1, 3)),
    "gap": lambda many, ties: gap(many, ties, 0, -1),
    "earliest": earliest,
    "latest": latest,
    **{name: with_row_of_one(ask) for name, ask in WITH_ROW.items()},
}
NO_CANT_BE = ["way_fault", "can_be", "ring", "least_set"]
CANT = [(0, -1, 3), (-1, 0, -2)]
BAD_TIES = [
    (0, 0, 1), (1, 1, 0), (-1, -1, 0), (0, 2, 1), (2, 0, 1), (0, -2, 1), (-2, 0, 1), (FAR, 0, 1), (0, -FAR, 1),
    (0, 1, 10000), (0, 1, -10000), (0, 1, FAR), (0, 1, -FAR), (0, -1, 10000), (-1, 0, -10000), (3, 4, FAR),
    (-3, -4, 0), (), (0,), (0, 1), (0, 1, 2, 3),
]
GOOD_TIES = [(0, 1, -9999), (0, -1, 9999), (-1, 1, -9999), (1, 0, -9999), (1, -1, 0)]


class TestRefusals(RefusalCase):
    def test_count(self):
        for ask in ALL.values():
            for many in (0, 11, 12, -1, -2, FAR, -FAR):
                self.refused(BadCount, ask, many, [])

    def test_counts_that_are_good(self):
        for many in range(1, 11):
            for name, ask in ALL.items():
                with self.subTest(name=name, many=many):
                    ask(many, [])

    def test_count_ahead_of_tie(self):
        for ask in ALL.values():
            for ties in ([(0, 0, 0)], [(0, 1, FAR)], [(0, 1, 0)] * 81, CANT):
                self.refused(BadCount, ask, 0, ties)
                self.refused(BadCount, ask, 11, ties)

    def test_ties_that_are_none(self):
        for ask in ALL.values():
            for tie in BAD_TIES:
                self.refused(BadTie, ask, 2, [tie])
                self.refused(BadTie, ask, 2, [(0, 1, 0), tie, (0, 1, 0)])

    def test_ties_at_the_ends_are_good(self):
        for name, ask in ALL.items():
            with self.subTest(name=name):
                ask(2, GOOD_TIES)

    def test_strangers_depend_on_the_count(self):
        for ask in ALL.values():
            self.refused(BadTie, ask, 9, [(9, 0, 0)])
            self.refused(BadTie, ask, 10, [(0, 10, 0)])
            ask(10, [(9, 0, 0)])

    def test_more_than_80(self):
        for ask in ALL.values():
            ask(2, [(0, 1, 0)] * 80)
            self.refused(BadTie, ask, 2, [(0, 1, 0)] * 81)
            self.refused(BadTie, ask, 2, [(0, 1, 0)] * 100)

    def test_tie_ahead_of_cant_be(self):
        for ask in ALL.values():
            self.refused(BadTie, ask, 2, CANT + [(0, 0, 1)])
            self.refused(BadTie, ask, 2, [(0, 5, 1)] + CANT)
            self.refused(BadTie, ask, 2, CANT * 41)

    def test_cant_be(self):
        for name, ask in ALL.items():
            if name in NO_CANT_BE:
                with self.subTest(name=name):
                    ask(2, CANT)
            else:
                self.refused(CantBe, ask, 2, CANT)
                self.refused(CantBe, ask, 2, [(-1, 1, 1)])
                self.refused(CantBe, ask, 2, CANT * 40)

    def test_the_tie_more(self):
        for tie in BAD_TIES:
            self.refused(BadTie, bearing, 2, [], tie)
            self.refused(BadTie, bearing, 2, CANT, tie)
            self.refused(BadCount, bearing, 0, CANT, tie)
        self.refused(CantBe, bearing, 2, CANT, (0, 1, 0))
        self.refused(CantBe, bearing, 2, CANT, (0, -1, 3))
        self.refused(BadTie, bearing, 2, [(0, 1, 0)] * 81, (0, 1, 0))

    def test_no_life(self):
        pairs = [(2, 0), (0, 2), (-2, 0), (0, -2), (FAR, 0), (0, -FAR), (2, 2), (-2, -2), (-1, 2), (FAR, FAR)]
        for one, other in pairs:
            self.refused(NoLife, gap, 2, [], one, other)
            self.refused(CantBe, gap, 2, CANT, one, other)
            self.refused(BadTie, gap, 2, [(0, 0, 0)], one, other)
            self.refused(BadCount, gap, 11, [(0, 0, 0)], one, other)

    def test_refused_ties_stay(self):
        for ask in ALL.values():
            ties = CANT + [(0, 0, 1)]
            with self.assertRaises(BadTie):
                ask(2, ties)
            self.assertEqual(ties, CANT + [(0, 0, 1)])


class TestRows(RefusalCase):
    def test_rows_that_are_none(self):
        for ask in WITH_ROW.values():
            for row in BAD_ROWS:
                self.refused(BadRow, ask, 2, [], row)
            self.refused(BadRow, ask, 10, [], [0, 1, 2, 3, 4])
            self.refused(BadRow, ask, 10, [], [0, 10])
            self.refused(BadRow, ask, 10, [], [3, 0, 3])

    def test_rows_that_are_good(self):
        for name, ask in WITH_ROW.items():
            for row in ([0], [0, 9], [9, 0], [3, 2, 0], [9, 8, 7, 0]):
                with self.subTest(name=name, row=row):
                    handed = list(row)
                    ask(10, [], row)
                    self.assertEqual(row, handed)

    def test_ties_ahead_of_rows(self):
        for ask in WITH_ROW.values():
            for row in BAD_ROWS:
                self.refused(CantBe, ask, 2, CANT, row)
                self.refused(BadTie, ask, 2, CANT + [(0, 0, 1)], row)
                self.refused(BadCount, ask, 11, CANT + [(0, 0, 1)], row)
                self.refused(BadCount, ask, 0, [(0, 0, 1)] * 81, row)

    def test_refused_rows_stay(self):
        for ask in WITH_ROW.values():
            row = [1, 0, 1]
            with self.assertRaises(BadRow):
                ask(2, [], row)
            self.assertEqual(row, [1, 0, 1])


class TestDays(RefusalCase):
    def test_days_that_are_none(self):
        for ask in OF_DAY + [lambda *things: shown(*things, 0), lambda *things: shown(*things, -1)]:
            for day in BAD_DAYS:
                self.refused(BadDay, ask, 2, [], [0], day)
                self.refused(BadRow, ask, 2, [], [0, 0], day)
                self.refused(CantBe, ask, 2, CANT, [0, 0], day)
                self.refused(BadTie, ask, 2, CANT + [(0, 0, 1)], [0, 0], day)
                self.refused(BadCount, ask, -1, CANT + [(0, 0, 1)], [0, 0], day)
            for day in (0, 9999):
                ask(2, [], [0], day)

    def test_runs_that_are_none(self):
        of_run = [(ask, [[0]]) for ask in OF_ROW] + [(ask, [[0], 0]) for ask in OF_LIFE]
        for ask, rest in of_run:
            for start, end in BAD_RUNS:
                self.refused(BadDay, ask, 2, [], *rest, start, end)
                self.refused(BadDay, ask, 2, [], *rest, end=end, start=start)
                self.refused(BadDay, ask, 2, [], *rest, start, end=end)
                self.refused(BadRow, ask, 2, [], [0, 0], *rest[1:], start, end)
                self.refused(CantBe, ask, 2, CANT, [0, 0], *rest[1:], start, end)
                self.refused(BadTie, ask, 2, CANT + [(0, 0, 1)], [0, 0], *rest[1:], start, end)
                self.refused(BadCount, ask, 11, CANT + [(0, 0, 1)], [0, 0], *rest[1:], start, end)
            for start in BAD_DAYS:
                self.refused(BadDay, ask, 2, [], *rest, start)
                self.refused(BadDay, ask, 2, [], *rest, start=start)
            for end in (0, -1, 10001, FAR, -FAR):
                self.refused(BadDay, ask, 2, [], *rest, end=end)
            for start, end in GOOD_RUNS:
                with self.subTest(start=start, end=end):
                    ask(2, [], *rest, start, end)

    def test_the_end_is_held_against_the_start(self):
        self.refused(BadDay, beasts, 2, [], [0], 40, 40)
        self.refused(BadDay, beasts, 2, [], [0], 40, 39)
        beasts(2, [], [0], 40, 41)


class TestLives(RefusalCase):
    def test_no_life_of_the_row(self):
        for life in (1, 3, -2, 10, FAR, -FAR):
            self.refused(NoLife, shown, 4, [], [2, 0], 5, life)
            self.refused(BadDay, shown, 4, [], [2, 0], 10000, life)
            self.refused(BadRow, shown, 4, [], [2, 2], 10000, life)
            self.refused(CantBe, shown, 4, CANT, [2, 2], 10000, life)
        shown(4, [], [2, 0], 5, -1)

    def test_no_life_of_the_row_with_a_run(self):
        for ask in OF_LIFE:
            for life in (1, 3, -1, -2, 10, FAR, -FAR):
                self.refused(NoLife, ask, 4, [], [2, 0], life)
                self.refused(NoLife, ask, 4, [], [2, 0], life, 5, 8)
                self.refused(BadDay, ask, 4, [], [2, 0], life, 5, 5)
                self.refused(BadDay, ask, 4, [], [2, 0], life, start=-1)
                self.refused(BadDay, ask, 4, [], [2, 0], life, end=10001)
                self.refused(BadRow, ask, 4, [], [2, 2], life, 5, 5)
                self.refused(CantBe, ask, 4, CANT, [2, 2], life, 5, 5)
                self.refused(BadTie, ask, 4, CANT + [(0, 0, 1)], [2, 2], life, 5, 5)
                self.refused(BadCount, ask, FAR, CANT + [(0, 0, 1)], [2, 2], life, 5, 5)
            for life in (2, 0):
                ask(4, [], [2, 0], life)


if __name__ == "__main__":
    unittest.main()
