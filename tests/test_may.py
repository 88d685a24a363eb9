import random
import unittest

import brute
from lifehold.may import enders, may_hold, shown, surely


def days_about(windows):
    low = min(low for low, high in windows)
    high = max(high for low, high in windows)
    return [day for day in [0, 9999] + list(range(low - 1, high + 2)) if 0 <= day <= 9999]


def ends_the_doubt(ways, row, day, life):
    """[14], to the letter."""
    told = {}
    for way in ways:
        told.setdefault(way[life], set()).add(brute.holder_of(row, way, day))
    return all(len(ones) == 1 for ones in told.values())


class TestAgainstAllWays(unittest.TestCase):
    def check(self, many, ties, row, day, ways):
        able = {brute.holder_of(row, way, day) for way in ways}
        asked = (many, ties, row, day)
        want = [one for one in row + [-1] if one in able]
        self.assertEqual(may_hold(*asked), want, asked)
        self.assertEqual(surely(*asked), want[0] if len(want) == 1 else None, asked)
        for one in row + [-1]:
            way = shown(*asked, one)
            if one in able:
                self.assertIn(way, ways, (asked, one))
                self.assertEqual(brute.holder_of(row, way, day), one, (asked, one))
            else:
                self.assertIsNone(way, (asked, one))
        ending = [life for life in range(many) if ends_the_doubt(ways, row, day, life)]
        self.assertEqual(enders(*asked), ending, asked)
        return len(want), len(ending)

    def go_through(self, seed, sets):
        chance = random.Random(seed)
        seen = {}
        for many, windows, ties, ways in brute.sets_with_ways(sets):
            handed = list(ties)
            for row in brute.some_rows(chance, many, 2):
                kept = list(row)
                for day in days_about(windows):
                    able, ending = self.check(many, ties, row, day, ways)
                    case = (min(able, 3), (ending > 0) + (ending == many))
                    seen[case] = seen.get(case, 0) + 1
                self.assertEqual((row, ties), (kept, handed))
        return seen

    def test_small_sets(self):
        seen = self.go_through(201, brute.small_sets(202, 600))
        self.assertEqual({case for case in seen if case[0] == 1}, {(1, 2)})
        # Doubts that no life, some lives and all lives end.
        for case in ((2, 1), (2, 2), (3, 0)):
            self.assertGreater(seen[case], 20, case)

    def test_five_lives(self):
        self.assertTrue(self.go_through(221, brute.small_sets(222, 60, 5)))

    def test_stiff_sets(self):
        seen = self.go_through(231, brute.stiff_sets(232, 250))
        for case in ((2, 1), (2, 2), (3, 0), (3, 1)):
            self.assertGreater(seen[case], 5, case)


class TestByHand(unittest.TestCase):
    def test_without_ties(self):
        self.assertEqual(may_hold(3, [], [2, 0], 0), [2, 0, -1])
        self.assertEqual(may_hold(3, [], [2, 0], 9998), [2, 0, -1])
        # No life is there on the last day.
        self.assertEqual(may_hold(3, [], [2, 0], 9999), [-1])
        self.assertEqual(surely(3, [], [2, 0], 9999), -1)
        self.assertEqual(enders(3, [], [2, 0], 9999), [0, 1, 2])
        self.assertIsNone(surely(3, [], [2, 0], 0))
        self.assertEqual(enders(3, [], [2, 0], 0), [])
        self.assertEqual(enders(3, [], [2], 0), [2])

    def test_known_days(self):
        ties = brute.window_ties([(40, 40), (50, 50)])
        for day, one in ((0, 0), (39, 0), (40, 1), (49, 1), (50, -1), (9999, -1)):
            self.assertEqual(may_hold(2, ties, [0, 1], day), [one])
            self.assertEqual(surely(2, ties, [0, 1], day), one)
            self.assertEqual(enders(2, ties, [0, 1], day), [0, 1])
            self.assertEqual(shown(2, ties, [0, 1], day, one), [40, 50])
        self.assertIsNone(shown(2, ties, [0, 1], 40, 0))
        self.assertIsNone(shown(2, ties, [0, 1], 40, -1))
        self.assertIsNone(shown(2, ties, [0, 1], 9999, 0))

    def test_who_comes_second_may_not_hold(self):
        # Life 1 dies with life 0 at the latest.
        ties = [(0, 1, 0), (0, -1, 20)]
        self.assertEqual(may_hold(2, ties, [0, 1], 30), [0, -1])
        self.assertEqual(may_hold(2, ties, [0, 1], 19), [0])
        self.assertEqual(enders(2, ties, [0, 1], 30), [0])

    def test_an_ender_outside_of_the_row(self):
        # Life 2 dies just five days behind life 0.
        ties = [(2, 0, 5), (0, 2, -5), (-1, 1, 0)]
        self.assertEqual(may_hold(3, ties, [0], 30), [0, -1])
        self.assertEqual(enders(3, ties, [0], 30), [0, 2])

    def test_told_lists_are_free(self):
        ties, row = [(0, 1, 3)], [1, 0]
        for ask in (may_hold, enders, lambda *things: shown(*things, 0)):
            first = ask(2, ties, row, 30)
            kept = list(first)
            first.append(7)
            self.assertEqual(ask(2, ties, row, 30), kept)
        self.assertEqual((ties, row), ([(0, 1, 3)], [1, 0]))


class TestLargeSets(unittest.TestCase):
    def check(self, many, ties, row, day):
        able = []
        for one in row + [-1]:
            some = brute.raised_days(many, ties + brute.holding_ties(row, day, one)) is not None
            way = shown(many, ties, row, day, one)
            self.assertEqual(way is not None, some, (many, ties, row, day, one))
            if some:
                able.append(one)
                self.assertEqual(len(way), many)
                self.assertTrue(all(0 <= each <= 9999 for each in way) and brute.keeps(way, ties))
                self.assertEqual(brute.holder_of(row, way, day), one)
        self.assertEqual(may_hold(many, ties, row, day), able)
        self.assertEqual(surely(many, ties, row, day), able[0] if len(able) == 1 else None)
        return able

    def check_enders(self, many, ties, row, day, able):
        told = enders(many, ties, row, day)
        self.assertEqual(told, sorted(set(told)))
        for life in range(many):
            common = False
            for at, one in enumerate(able):
                for other in able[:at]:
                    lows, highs = [], []
                    for each in (one, other):
                        more = ties + brute.holding_ties(row, day, each)
                        lows.append(brute.raised_days(many, more)[life])
                        highs.append(brute.lowered_days(many, more)[life])
                    common = common or max(lows) <= min(highs)
            self.assertEqual(life in told, not common, (many, ties, row, day, life))

    def test_up_to_ten_lives_and_eighty_ties(self):
        chance = random.Random(241)
        doubts = 0
        for _ in range(100):
            many = chance.randint(2, 10)
            way, ties = brute.ties_of_a_way(chance, many, chance.randint(5, 80))
            row = brute.some_rows(chance, many, 1)[0]
            about = chance.choice([way[life] for life in row])
            for day in (about - 1, about, chance.randint(0, 9999), 0, 9999):
                if 0 <= day <= 9999:
                    able = self.check(many, ties, row, day)
                    doubts += len(able) > 1
                    self.check_enders(many, ties, row, day, able)
        self.assertGreater(doubts, 40)


if __name__ == "__main__":
    unittest.main()
