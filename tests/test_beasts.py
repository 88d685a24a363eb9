import random
import unittest

import brute
from lifehold.beasts import beasts, beasts_ways


class TestAgainstAllWays(unittest.TestCase):
    def check(self, chance, many, ties, row, run, ways):
        asked = (many, ties, row, run)
        counts = [len(brute.dying_in_holding(row, way, *run)) for way in ways]
        told = brute.ask_run(chance, beasts, [many, ties, row], *run)
        self.assertEqual(told, (min(counts), max(counts)), asked)
        self.assertIsInstance(told, tuple)
        pair = brute.ask_run(chance, beasts_ways, [many, ties, row], *run)
        self.assertIsInstance(pair, tuple)
        self.assertEqual(len(pair), 2)
        for way, count in zip(pair, told):
            self.assertIn(way, ways, asked)
            self.assertEqual(counts[ways.index(way)], count, asked)
        return told

    def go_through(self, seed, sets, runs):
        chance = random.Random(seed)
        seen = {}
        for many, windows, ties, ways in brute.sets_with_ways(sets):
            handed = list(ties)
            for row in brute.some_rows(chance, many, 2):
                kept = list(row)
                for run in brute.some_runs(chance, windows, runs):
                    told = self.check(chance, many, ties, row, run, ways)
                    seen[told] = seen.get(told, 0) + 1
                self.assertEqual((row, ties), (kept, handed))
        return seen

    def test_small_sets(self):
        seen = self.go_through(401, brute.small_sets(402, 600), 4)
        for told in ((0, 0), (0, 1), (1, 1), (0, 2), (1, 2), (1, 3)):
            self.assertGreater(seen[told], 5, told)

    def test_five_lives(self):
        self.assertTrue(self.go_through(421, brute.small_sets(422, 80, 5), 3))

    def test_stiff_sets(self):
        seen = self.go_through(431, brute.stiff_sets(432, 200), 4)
        for told in ((1, 3), (2, 3), (3, 3), (3, 4)):
            self.assertIn(told, seen)


class TestByHand(unittest.TestCase):
    def test_without_ties(self):
        self.assertEqual(beasts(4, [], [0, 1, 2, 3]), (0, 4))
        self.assertEqual(beasts(4, [], [0, 1, 2, 3], 0, 1), (0, 1))
        self.assertEqual(beasts(4, [], [0, 1, 2, 3], 0, 3), (0, 3))
        self.assertEqual(beasts(4, [], [2], 9999), (0, 0))
        self.assertEqual(beasts(4, [], [2], 9998), (0, 1))

    def test_known_days(self):
        ties = brute.window_ties([(5, 5), (9, 9), (7, 7)])
        self.assertEqual(beasts(3, ties, [0, 1, 2]), (2, 2))
        self.assertEqual(beasts(3, ties, [0, 2, 1]), (3, 3))
        self.assertEqual(beasts(3, ties, [1, 2, 0]), (1, 1))
        self.assertEqual(beasts(3, ties, [0, 2, 1], 5), (2, 2))
        self.assertEqual(beasts(3, ties, [0, 2, 1], 4, 7), (2, 2))
        self.assertEqual(beasts(3, ties, [0, 2, 1], end=6), (1, 1))
        self.assertEqual(beasts_ways(3, ties, [0, 2, 1]), ([5, 9, 7], [5, 9, 7]))

    def test_on_one_day_or_one_behind_the_other(self):
        window = brute.window_ties([(5, 9), (5, 9), (5, 9)])
        self.assertEqual(beasts(3, window, [0, 1, 2]), (1, 3))
        self.assertEqual(beasts(3, window + [(1, 0, 1)], [0, 1, 2]), (2, 3))
        self.assertEqual(beasts(3, window + [(0, 1, 0)], [0, 1, 2]), (1, 2))
        self.assertEqual(beasts(3, window + [(1, 0, 1), (2, 1, 1)], [0, 1, 2]), (3, 3))

    def test_told_lists_are_free(self):
        ties, row = [(0, 1, 3)], [1, 0]
        first = beasts_ways(2, ties, row)
        kept = (list(first[0]), list(first[1]))
        first[0].clear()
        self.assertEqual(beasts_ways(2, ties, row), kept)
        first[1].append(5)
        self.assertEqual(beasts_ways(2, ties, row), kept)
        self.assertEqual((ties, row), ([(0, 1, 3)], [1, 0]))

    def test_the_two_ways_are_two_lists(self):
        fewest, most = beasts_ways(1, [(0, -1, 5), (-1, 0, -5)], [0])
        fewest.clear()
        self.assertEqual(most, [5])


class TestLargeSets(unittest.TestCase):
    def test_up_to_ten_lives_and_eighty_ties(self):
        chance = random.Random(441)
        for _ in range(60):
            many = chance.randint(2, 10)
            way, ties = brute.ties_of_a_way(chance, many, chance.randint(5, 80))
            row = brute.some_rows(chance, many, 1)[0]
            start, end = sorted(chance.sample(sorted(set(way) | {0, 10000, chance.randint(1, 9999)}), 2))
            for run in ((start, end), (0, None)):
                told = beasts(many, ties, row, *run)
                for each, count in zip(beasts_ways(many, ties, row, *run), told):
                    self.assertEqual(len(each), many)
                    self.assertTrue(all(0 <= day <= 9999 for day in each) and brute.keeps(each, ties))
                    self.assertEqual(len(brute.dying_in_holding(row, each, *run)), count)
                for other in [way] + [brute.random_way(chance, many, ties) for _ in range(3)]:
                    count = len(brute.dying_in_holding(row, other, *run))
                    self.assertTrue(told[0] <= count <= told[1], (many, ties, row, run))


if __name__ == "__main__":
    unittest.main()
