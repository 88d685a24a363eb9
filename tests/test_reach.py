import random
import unittest

import brute
from lifehold.reach import days_of, fewest_days, fewest_way, most_days, most_way, sure_days
from lifehold.spans import Span


def days_in(span):
    return [] if span is None else list(range(span.first, span.until))


def held(row, way, life, start, end):
    """How many days of the run the life holds on, by the turns' borders."""
    borders = sorted({start, 10000 if end is None else end} | set(way))
    run = brute.run_of(start, end)
    return sum(late - early for early, late in zip(borders, borders[1:])
               if early in run and brute.holder_of(row, way, early) == life)


class TestAgainstAllWays(unittest.TestCase):
    def check(self, chance, many, ties, row, life, run, ways, reps):
        start, end = run

        def ask(door):
            return brute.ask_run(chance, door, [many, ties, row, life], start, end)

        asked = (many, ties, row, life, run)
        may, sure = set(), set(reps.days)
        stands_for = {day: reps.of_run(day, start, end) for day in reps.days}
        counts = []
        for way in ways:
            mine = {day for day in reps.days if brute.holder_of(row, way, day) == life}
            may |= mine
            sure &= mine
            counts.append(sum(len(stands_for[day]) for day in mine))
        span, certain = ask(days_of), ask(sure_days)
        for told, days in ((span, may), (certain, sure)):
            self.assertEqual(days_in(told), [each for day in sorted(days) for each in stands_for[day]], asked)
        self.assertEqual(ask(fewest_days), min(counts), asked)
        self.assertEqual(ask(most_days), max(counts), asked)
        for door, count in ((fewest_way, min(counts)), (most_way, max(counts))):
            way = ask(door)
            self.assertIn(way, ways, asked)
            self.assertEqual(counts[ways.index(way)], count, asked)
            self.assertEqual(held(row, way, life, start, end), count, asked)
        return span is not None, certain is not None, max(counts) - min(counts) > 0

    def go_through(self, seed, sets, runs):
        chance = random.Random(seed)
        seen = {}
        for many, windows, ties, ways in brute.sets_with_ways(sets):
            handed, reps = list(ties), brute.Reps(windows)
            row = brute.some_rows(chance, many, 1)[0]
            kept = list(row)
            for run in brute.some_runs(chance, windows, runs):
                for life in row:
                    case = self.check(chance, many, ties, row, life, run, ways, reps)
                    seen[case] = seen.get(case, 0) + 1
            self.assertEqual((row, ties), (kept, handed))
        return seen

    def test_small_sets(self):
        seen = self.go_through(301, brute.small_sets(302, 500), 4)
        cases = [(True, True, True), (True, True, False), (True, False, True), (False, False, False)]
        for case in cases:
            self.assertGreater(seen[case], 20, case)

    def test_five_lives(self):
        self.assertTrue(self.go_through(321, brute.small_sets(322, 50, 5), 2))

    def test_stiff_sets(self):
        seen = self.go_through(331, brute.stiff_sets(332, 150), 3)
        # Days without doubt, though on none it is sure that the life holds.
        self.assertIn((True, False, False), seen)


class TestByHand(unittest.TestCase):
    def test_without_ties(self):
        for life in (0, 1):
            self.assertEqual(days_of(2, [], [0, 1], life), Span(0, 9999))
            self.assertIsNone(sure_days(2, [], [0, 1], life))
            self.assertEqual(fewest_days(2, [], [0, 1], life), 0)
            self.assertEqual(most_days(2, [], [0, 1], life), 9999)
        self.assertEqual(most_way(2, [], [0, 1], 1), [0, 9999])

    def test_windows(self):
        ties = brute.window_ties([(40, 60), (50, 90)])
        self.assertEqual(days_of(2, ties, [0, 1], 0), Span(0, 60))
        self.assertEqual(days_of(2, ties, [0, 1], 1), Span(40, 90))
        self.assertEqual(sure_days(2, ties, [0, 1], 0), Span(0, 40))
        self.assertIsNone(sure_days(2, ties, [0, 1], 1))
        self.assertEqual(fewest_days(2, ties, [0, 1], 0), 40)
        self.assertEqual(most_days(2, ties, [0, 1], 0), 60)
        self.assertEqual(fewest_days(2, ties, [0, 1], 1), 0)
        self.assertEqual(most_days(2, ties, [0, 1], 1), 50)
        self.assertEqual(most_way(2, ties, [0, 1], 1), [40, 90])

    def test_runs_cut(self):
        ties = brute.window_ties([(40, 60), (50, 90)])
        self.assertEqual(days_of(2, ties, [0, 1], 0, 59), Span(59, 60))
        self.assertIsNone(days_of(2, ties, [0, 1], 0, 60))
        self.assertEqual(days_of(2, ties, [0, 1], 1, end=41), Span(40, 41))
        self.assertIsNone(days_of(2, ties, [0, 1], 1, end=40))
        self.assertEqual(sure_days(2, ties, [0, 1], 0, start=39), Span(39, 40))
        self.assertIsNone(sure_days(2, ties, [0, 1], 0, start=40))
        self.assertEqual(fewest_days(2, ties, [0, 1], 0, 30, 35), 5)
        self.assertEqual(most_days(2, ties, [0, 1], 1, 45, 80), 35)

    def test_a_gap_alone_is_known(self):
        # Nobody knows when, but life 1 holds for 5 to 9 days.
        ties = [(1, 0, 5), (0, 1, -9)]
        self.assertEqual(fewest_days(2, ties, [0, 1], 1), 5)
        self.assertEqual(most_days(2, ties, [0, 1], 1), 9)
        self.assertIsNone(sure_days(2, ties, [0, 1], 1))
        way = fewest_way(2, ties, [0, 1], 1)
        self.assertEqual(way[1] - way[0], 5)
        way = most_way(2, ties, [0, 1], 1)
        self.assertEqual(way[1] - way[0], 9)

    def test_one_that_never_holds(self):
        ties = [(0, 1, 3)]
        self.assertIsNone(days_of(2, ties, [0, 1], 1))
        self.assertIsNone(sure_days(2, ties, [0, 1], 1))
        self.assertEqual(fewest_days(2, ties, [0, 1], 1), 0)
        self.assertEqual(most_days(2, ties, [0, 1], 1), 0)
        for ask in (fewest_way, most_way):
            self.assertTrue(brute.keeps(ask(2, ties, [0, 1], 1), ties))

    def test_told_things_are_free(self):
        ties, row = [(0, 1, 3)], [1, 0]
        for ask in (fewest_way, most_way):
            first = ask(2, ties, row, 0)
            kept = list(first)
            first.clear()
            self.assertEqual(ask(2, ties, row, 0), kept)
        days_of(2, ties, row, 0).until = 7
        self.assertEqual(days_of(2, ties, row, 0), Span(0, 9999))
        self.assertEqual((ties, row), ([(0, 1, 3)], [1, 0]))


class TestLargeSets(unittest.TestCase):
    def is_way(self, many, ties, way):
        return len(way) == many and all(0 <= day <= 9999 for day in way) and brute.keeps(way, ties)

    def check_days(self, many, ties, row, life, run):
        start, below = run
        span = days_of(many, ties, row, life, start, below)
        if span is None:
            hold, hold_not = [], [start, (start + below) // 2, below - 1]
        else:
            self.assertTrue(start <= span.first < span.until <= below)
            hold = [span.first, (span.first + span.until) // 2, span.until - 1]
            hold_not = [day for day in (span.first - 1, span.until) if start <= day < below]
        for days, some in ((hold, True), (hold_not, False)):
            for day in days:
                way = brute.raised_days(many, ties + brute.holding_ties(row, day, life))
                self.assertEqual(way is not None, some, (many, ties, row, life, run, day))

    def check_sure_days(self, many, ties, row, life, run):
        start, below = run
        early, late = brute.raised_days(many, ties), brute.lowered_days(many, ties)
        sure = [day for day in range(start, below)
                if early[life] > day and all(late[each] <= day for each in row[:row.index(life)])]
        self.assertEqual(days_in(sure_days(many, ties, row, life, start, below)), sure)

    def check_fewest(self, many, ties, row, life, run):
        start, below = run
        fewest = fewest_days(many, ties, row, life, start, below)
        way = fewest_way(many, ties, row, life, start, below)
        self.assertTrue(self.is_way(many, ties, way))
        self.assertEqual(held(row, way, life, start, below), fewest)
        if fewest > 0:
            # To hold on fewer, it would die early, or one ahead of it late, or both too near to one another.
            ahead = row[:row.index(life)]
            fewer = [[(-1, life, -(start + fewest - 1))]] + [[(each, -1, below - fewest + 1)] for each in ahead]
            fewer += [[(each, life, 1 - fewest)] for each in ahead]
            self.assertGreaterEqual(below - start, fewest)
            for more in fewer:
                self.assertIsNone(brute.raised_days(many, ties + more), (many, ties, row, life, run))
        return fewest

    def check_most(self, many, ties, row, life, run):
        start, below = run
        most = most_days(many, ties, row, life, start, below)
        way = most_way(many, ties, row, life, start, below)
        self.assertTrue(self.is_way(many, ties, way))
        self.assertEqual(held(row, way, life, start, below), most)
        if most < below - start:
            ahead = row[:row.index(life)]
            more = [(life, -1, start + most + 1)] + [(-1, each, most + 1 - below) for each in ahead]
            more += [(life, each, most + 1) for each in ahead]
            self.assertIsNone(brute.raised_days(many, ties + more), (many, ties, row, life, run))
        return most

    def test_up_to_ten_lives_and_eighty_ties(self):
        chance = random.Random(341)
        seen = {"sure": 0, "doubt": 0, "none": 0}
        for _ in range(150):
            many = chance.randint(2, 10)
            way, ties = brute.ties_of_a_way(chance, many, chance.randint(5, 80))
            row = brute.some_rows(chance, many, 1)[0]
            start, below = sorted(chance.sample(sorted(set(way) | {0, 10000, chance.randint(1, 9999)}), 2))
            for run in ((start, below), (0, 10000)):
                for life in row:
                    self.check_days(many, ties, row, life, run)
                    self.check_sure_days(many, ties, row, life, run)
                    fewest = self.check_fewest(many, ties, row, life, run)
                    most = self.check_most(many, ties, row, life, run)
                    seen["none" if most == 0 else "doubt" if fewest == 0 else "sure"] += 1
        self.assertGreater(min(seen.values()), 40)

    def test_ways_by_chance(self):
        chance = random.Random(361)
        for _ in range(40):
            many = chance.randint(2, 10)
            ties = brute.ties_of_a_way(chance, many, chance.randint(5, 60))[1]
            row = brute.some_rows(chance, many, 1)[0]
            for _ in range(3):
                way = brute.random_way(chance, many, ties)
                for life in row:
                    count = held(row, way, life, 0, None)
                    self.assertLessEqual(fewest_days(many, ties, row, life), count)
                    self.assertGreaterEqual(most_days(many, ties, row, life), count)


if __name__ == "__main__":
    unittest.main()
