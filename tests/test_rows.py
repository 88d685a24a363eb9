import random
import unittest

import brute
from bad import BAD_DAYS, BAD_ROWS, BAD_RUNS, FAR, GOOD_RUNS, RefusalCase
from lifehold.errors import BadCount, BadDay, BadRow
from lifehold.rows import holder, in_holding, turns
from lifehold.spans import Span


class TestHolder(unittest.TestCase):
    def test_one_life(self):
        for day, life in ((0, 0), (6, 0), (7, -1), (8, -1), (9999, -1)):
            self.assertEqual(holder([0], [7], day), life)

    def test_a_life_that_ends_on_day_nought(self):
        self.assertEqual(holder([0], [0], 0), -1)
        self.assertEqual(holder([0, 1], [0, 1], 0), 1)
        self.assertEqual(holder([0, 1], [0, 1], 1), -1)

    def test_a_life_that_ends_on_the_last_day(self):
        self.assertEqual(holder([0], [9999], 9998), 0)
        self.assertEqual(holder([0], [9999], 9999), -1)

    def test_the_order_of_the_row(self):
        days = [30, 10, 20, 40]
        wants = {
            (3, 0, 1, 2): {0: 3, 39: 3, 40: -1},
            (1, 2, 0, 3): {0: 1, 9: 1, 10: 2, 19: 2, 20: 0, 29: 0, 30: 3, 39: 3, 40: -1, 9999: -1},
            (0, 1, 3): {9: 0, 29: 0, 30: 3, 39: 3, 40: -1},
            (2, 1): {9: 2, 19: 2, 20: -1},
            (1,): {9: 1, 10: -1, 9999: -1},
        }
        for row, told in wants.items():
            for day, life in told.items():
                self.assertEqual(holder(list(row), days, day), life, (row, day))

    def test_several_deaths_on_one_day(self):
        self.assertEqual(holder([0, 1, 2], [5, 5, 6], 4), 0)
        self.assertEqual(holder([0, 1, 2], [5, 5, 6], 5), 2)
        self.assertEqual(holder([0, 1, 2], [5, 5, 5], 5), -1)

    def test_ten_lives(self):
        days = list(range(10, 110, 10))
        self.assertEqual(holder([9, 0], days, 99), 9)
        self.assertEqual(holder([0, 9], days, 10), 9)
        self.assertEqual(holder([0, 9], days, 100), -1)

    def test_by_chance(self):
        chance = random.Random(101)
        for _ in range(400):
            days = some_days(chance)
            row = brute.some_rows(chance, len(days), 1)[0]
            about = [day + by for day in days for by in (-1, 0, 1)] + [0, 9999]
            for day in about:
                if 0 <= day <= 9999:
                    self.assertEqual(holder(row, days, day), brute.holder_of(row, days, day), (row, days, day))


def some_days(chance):
    """Days of death that lie together, so that some are alike."""
    base = chance.choice([0, 3000, 9990])
    return [base + chance.randint(0, 9) for _ in range(chance.randint(1, 10))]


def days_by_holder(row, days, start, end):
    """Each life's days of the run, gone through one by one."""
    told = {}
    for day in brute.run_of(start, end):
        told.setdefault(brute.holder_of(row, days, day), []).append(day)
    told.pop(-1, None)
    return told


class TestTurns(unittest.TestCase):
    def check(self, chance, row, days, start, end):
        told = brute.ask_run(chance, turns, [row, days], start, end)
        want = days_by_holder(row, days, start, end)
        self.assertEqual({life: list(range(span.first, span.until)) for life, span in told}, want)
        self.assertIsInstance(told, list)
        self.assertEqual(len(told), len(want))
        for pair in told:
            self.assertIsInstance(pair, tuple)
            self.assertIsInstance(pair[1], Span)
        # Without a gap from the start on, till the row has fallen in or the run ends.
        at = start
        for life, span in told:
            self.assertEqual(span.first, at)
            at = span.until
        self.assertEqual(at, max(start, min(max(days[life] for life in row), 10000 if end is None else end)))

    def test_by_hand(self):
        self.assertEqual(turns([0, 1], [5, 9]), [(0, Span(0, 5)), (1, Span(5, 9))])
        self.assertEqual(turns([1, 0], [5, 9]), [(1, Span(0, 9))])
        self.assertEqual(turns([0, 1], [5, 9], 5), [(1, Span(5, 9))])
        self.assertEqual(turns([0, 1], [5, 9], 4, 6), [(0, Span(4, 5)), (1, Span(5, 6))])
        self.assertEqual(turns([0, 1], [5, 9], end=5), [(0, Span(0, 5))])
        self.assertEqual(turns([0, 1], [5, 9], start=8, end=10000), [(1, Span(8, 9))])
        self.assertEqual(turns([0, 1], [5, 9], start=9), [])
        self.assertEqual(turns([0, 1], [0, 0]), [])
        self.assertEqual(turns([0, 1, 2, 3], [4, 4, 3, 6]), [(0, Span(0, 4)), (3, Span(4, 6))])
        self.assertEqual(turns([0], [9999]), [(0, Span(0, 9999))])
        self.assertEqual(turns([0], [9999], 9998, 9999), [(0, Span(9998, 9999))])
        self.assertEqual(turns([0], [9999], 9999), [])
        self.assertEqual(turns([0], [9999], 9999, 10000), [])

    def test_by_chance(self):
        chance = random.Random(111)
        for _ in range(300):
            days = some_days(chance)
            row = brute.some_rows(chance, len(days), 1)[0]
            windows = [(day, day) for day in days]
            for start, end in brute.some_runs(chance, windows, 3):
                self.check(chance, row, days, start, end)


class TestInHolding(unittest.TestCase):
    def test_by_hand(self):
        self.assertEqual(in_holding([0, 1], [5, 9]), [0, 1])
        self.assertEqual(in_holding([1, 0], [5, 9]), [1])
        self.assertEqual(in_holding([0], [0]), [])
        self.assertEqual(in_holding([0], [1]), [0])
        self.assertEqual(in_holding([0], [9999]), [0])
        self.assertEqual(in_holding([2, 0, 1], [7, 9, 3]), [2, 0, 1])

    def test_on_the_start_and_beside(self):
        for start, told in ((4, [0]), (5, []), (6, [])):
            self.assertEqual(in_holding([0], [5], start), told)
            self.assertEqual(in_holding([0], [5], start=start), told)
            self.assertEqual(in_holding([0], [5], start, 10000), told)

    def test_on_the_end_and_beside(self):
        for end, told in ((4, []), (5, [0]), (6, [0])):
            self.assertEqual(in_holding([0], [5], 0, end), told)
            self.assertEqual(in_holding([0], [5], end=end), told)

    def test_a_run_of_one_day(self):
        for start, told in ((3, []), (4, [0]), (5, [])):
            self.assertEqual(in_holding([0], [5], start, start + 1), told)

    def test_several_deaths_on_one_day(self):
        self.assertEqual(in_holding([0, 1, 2], [5, 5, 5]), [0])
        self.assertEqual(in_holding([1, 0, 2], [5, 5, 5]), [1])
        self.assertEqual(in_holding([0, 1, 2], [4, 5, 5]), [0, 1])

    def test_by_chance(self):
        chance = random.Random(121)
        for _ in range(400):
            days = some_days(chance)
            row = brute.some_rows(chance, len(days), 1)[0]
            windows = [(day, day) for day in days]
            for start, end in brute.some_runs(chance, windows, 5):
                told = brute.ask_run(chance, in_holding, [row, days], start, end)
                self.assertEqual(told, brute.dying_in_holding(row, days, start, end), (row, days, start, end))


# Each as it is asked with a row and days; the rest is good.
ALL = {"holder": lambda row, days: holder(row, days, 5), "turns": turns, "in_holding": in_holding}


class TestRefusals(RefusalCase):
    def test_count(self):
        for ask in ALL.values():
            for count in (0, 11, 12, 100):
                self.refused(BadCount, ask, [0], [5] * count)
                self.refused(BadCount, ask, [0, 0], [FAR] * count)
            for count in range(1, 11):
                ask([0], [5] * count)

    def test_days_of_death(self):
        for ask in ALL.values():
            for day in BAD_DAYS:
                for days in ([day], [5, day], [day, 5], [5] * 9 + [day]):
                    self.refused(BadDay, ask, [0], days)
                    self.refused(BadDay, ask, [0, 0], days)
            ask([0, 1], [0, 9999])

    def test_row(self):
        for ask in ALL.values():
            for row in BAD_ROWS:
                self.refused(BadRow, ask, row, [5, 5])
            self.refused(BadRow, ask, [0, 1, 2, 3, 4], [5] * 10)
            self.refused(BadRow, ask, [0, 10], [5] * 10)
            self.refused(BadRow, ask, [3, 1, 3], [5] * 10)
            ask([3, 1, 9, 0], [5] * 10)

    def test_day(self):
        for day in BAD_DAYS:
            self.refused(BadDay, holder, [0], [5], day)
            self.refused(BadRow, holder, [1], [5], day)
            self.refused(BadCount, holder, [1], [], day)

    def test_run(self):
        for ask in (turns, in_holding):
            for start, end in BAD_RUNS:
                self.refused(BadDay, ask, [0], [5], start, end)
                self.refused(BadDay, ask, [0], [5], end=end, start=start)
                self.refused(BadRow, ask, [0, 0], [5], start, end)
                self.refused(BadCount, ask, [0, 0], [5] * 11, start, end)
            self.refused(BadDay, ask, [0], [5], 10000)
            self.refused(BadDay, ask, [0], [5], start=-1)
            self.refused(BadDay, ask, [0], [5], end=0)
            self.refused(BadDay, ask, [0], [5], end=10001)
            for start, end in GOOD_RUNS:
                ask([0], [5], start, end)


class TestLists(unittest.TestCase):
    def test_what_is_handed_in_stays(self):
        row, days = [1, 0, 2], [5, 5, 9]
        holder(row, days, 5)
        turns(row, days, 1, 8)
        in_holding(row, days, 1, 8)
        self.assertEqual((row, days), ([1, 0, 2], [5, 5, 9]))

    def test_told_lists_are_free(self):
        row, days = [1, 0, 2], [5, 5, 9]
        first = turns(row, days)
        first[0][1].until = 2
        first.clear()
        self.assertEqual(turns(row, days), [(1, Span(0, 5)), (2, Span(5, 9))])
        in_holding(row, days).clear()
        self.assertEqual(in_holding(row, days), [1, 2])
        self.assertEqual((row, days), ([1, 0, 2], [5, 5, 9]))


if __name__ == "__main__":
    unittest.main()
