import random
import unittest

import brute
from lifehold.tight import bearing, can_be, earliest, gap, latest, least_set, ring


class CanBeCase(unittest.TestCase):
    def check_can(self, many, ties):
        handed = list(ties)
        with self.subTest(many=many, ties=ties):
            self.assertIs(can_be(many, ties), True)
            self.assertIsNone(ring(many, ties))
            self.assertIsNone(least_set(many, ties))
            self.assertEqual(ties, handed)

    def check_cant(self, many, ties):
        handed = list(ties)
        with self.subTest(many=many, ties=ties):
            self.assertIs(can_be(many, ties), False)
            self.assertIsNone(brute.ring_wrong(many, ties, ring(many, ties)))
            self.assertIsNone(brute.least_set_wrong(many, ties, least_set(many, ties)))
            self.assertEqual(ties, handed)


class TestCanBe(CanBeCase):
    def test_no_ties(self):
        for many in (1, 2, 10):
            self.check_can(many, [])

    def test_two_lives(self):
        self.check_can(2, [(0, 1, 1), (1, 0, -1)])
        self.check_cant(2, [(0, 1, 1), (1, 0, 0)])
        self.check_can(2, [(0, 1, 5), (1, 0, -5)])
        self.check_cant(2, [(0, 1, 5), (1, 0, -4)])

    def test_a_life_and_the_beginning(self):
        self.check_can(1, [(0, -1, 40), (-1, 0, -40)])
        self.check_cant(1, [(0, -1, 40), (-1, 0, -39)])

    def test_a_bound_and_a_tie(self):
        self.check_can(1, [(0, -1, 9999)])
        self.check_can(1, [(-1, 0, 0)])
        self.check_cant(1, [(-1, 0, 1)])
        self.check_can(2, [(0, 1, 9999)])
        self.check_cant(2, [(0, 1, 9999), (1, -1, 1)])
        self.check_cant(3, [(0, 1, 5000), (1, 2, 5000)])
        self.check_can(3, [(0, 1, 5000), (1, 2, 4999)])

    def test_the_bounds_themselves_as_ties(self):
        self.check_can(2, [(0, -1, 0), (-1, 0, -9999), (1, -1, 0), (-1, 1, -9999)])
        self.check_cant(2, [(0, -1, 0), (-1, 0, -9999), (1, -1, 0), (0, 1, 9999), (1, -1, 1)])
        self.assertEqual(least_set(1, [(0, -1, 0), (-1, 0, 1)]), [1])
        self.assertEqual(least_set(1, [(-1, 0, -9999), (0, -1, 0), (-1, 0, 7)]), [2])

    def test_the_least_set_of_one(self):
        self.assertEqual(least_set(1, [(-1, 0, 1)]), [0])
        self.assertEqual(least_set(3, [(0, 1, 3), (1, 2, 4), (-1, 2, 9999)]), [2])

    def test_a_ring_of_which_a_part_is_enough(self):
        # The third tie is against the first two, but so are the bounds.
        ties = [(0, -1, 5000), (1, 0, 6000), (-1, 1, -9000)]
        self.check_cant(2, ties)
        self.assertEqual(least_set(2, ties), [0, 1])
        self.assertEqual(least_set(2, [ties[2], ties[1], ties[0]]), [1, 2])

    def test_only_one_least_set(self):
        ties = [(2, 3, 5), (0, 1, 2), (3, 2, -9), (1, 2, 3), (2, 0, -4), (4, -1, 77)]
        self.check_cant(5, ties)
        self.assertEqual(least_set(5, ties), [1, 3, 4])

    def test_twice(self):
        self.check_can(2, [(0, 1, 3)] * 80)
        self.check_cant(2, [(0, 1, 3), (0, 1, 3), (1, 0, -2), (1, 0, -2)])
        self.check_cant(2, [(-1, 1, 2)] * 80)
        self.check_cant(3, [(0, 1, 1), (1, 2, 1), (2, 0, 0)] * 26)

    def test_ties_between_the_same_two(self):
        self.check_cant(2, [(0, 1, -9), (0, 1, 4), (0, 1, 3), (1, 0, -9), (1, 0, -3), (1, 0, -8)])
        self.check_can(2, [(0, 1, -9), (0, 1, 3), (0, 1, 2), (1, 0, -9), (1, 0, -3), (1, 0, -8)])

    def test_a_ring_of_all(self):
        around = [(life, (life + 1) % 10, 7) for life in range(9)]
        self.check_can(10, around + [(9, 0, -63)])
        self.check_cant(10, around + [(9, 0, -62)])
        self.assertEqual(least_set(10, around + [(9, 0, -62)]), list(range(10)))
        chain = [(life + 1, life, 1000) for life in range(9)]
        self.check_can(10, chain + [(0, -1, 999)])
        self.check_cant(10, chain + [(0, -1, 1000)])
        self.assertEqual(len(ring(10, chain + [(0, -1, 1000)])), 11)

    def test_small_sets(self):
        seen = {True: 0, False: 0}
        for many, windows, ties in brute.small_sets(21, 700):
            some = bool(brute.all_ways(windows, ties))
            seen[some] += 1
            if some:
                self.check_can(many, ties)
            else:
                self.check_cant(many, ties)
        self.assertGreater(min(seen.values()), 100)

    def test_large_sets(self):
        chance = random.Random(31)
        spoilt = 0
        for _ in range(150):
            many = chance.randint(2, 10)
            way, ties = brute.ties_of_a_way(chance, many, chance.randint(10, 78))
            self.check_can(many, ties)
            for _ in range(2):
                one, other = chance.sample(range(-1, many), 2)
                least = brute.day_of(way, one) - brute.day_of(way, other) + chance.choice([1, 1, 200])
                ties.insert(chance.randint(0, len(ties)), (one, other, min(9999, least)))
            if brute.raised_days(many, ties) is None:
                spoilt += 1
                self.check_cant(many, ties)
            else:
                self.check_can(many, ties)
        self.assertGreater(spoilt, 30)

    def test_wild_sets(self):
        chance = random.Random(41)
        for _ in range(150):
            many = chance.randint(1, 10)
            ties = []
            for _ in range(chance.randint(1, 80)):
                one, other = chance.sample(range(-1, many), 2)
                ties.append((one, other, chance.randint(-9999, chance.choice([-9000, -2000, 9999]))))
            if brute.raised_days(many, ties) is None:
                self.check_cant(many, ties)
            else:
                self.check_can(many, ties)


class TestOpen(unittest.TestCase):
    def check_gaps(self, many, ties, ways):
        ones = range(-1, many)
        for one in ones:
            for other in ones:
                least = min(brute.day_of(way, one) - brute.day_of(way, other) for way in ways)
                self.assertEqual(gap(many, ties, one, other), least, (many, ties, one, other))

    def check_bearing(self, many, ties, tie, ways):
        kept = [brute.keeps(way, [tie]) for way in ways]
        want = "known" if all(kept) else "news" if any(kept) else "against"
        self.assertEqual(bearing(many, ties, tie), want, (many, ties, tie))

    def test_against_all_ways(self):
        chance = random.Random(51)
        sets = 0
        for many, windows, ties in brute.small_sets(61, 700):
            ways = brute.all_ways(windows, ties)
            if not ways:
                continue
            sets += 1
            handed = list(ties)
            self.assertEqual(earliest(many, ties), [min(days) for days in zip(*ways)])
            self.assertEqual(latest(many, ties), [max(days) for days in zip(*ways)])
            self.assertIn(earliest(many, ties), ways)
            self.assertIn(latest(many, ties), ways)
            self.check_gaps(many, ties, ways)
            for _ in range(4):
                one, other = chance.sample(range(-1, many), 2)
                low = gap(many, ties, one, other)
                high = -gap(many, ties, other, one)
                for least in (low - 1, low, low + 1, high - 1, high, high + 1, -9999, 9999):
                    if -9999 <= least <= 9999:
                        self.check_bearing(many, ties, (one, other, least), ways)
            self.assertEqual(ties, handed)
        self.assertGreater(sets, 100)

    def test_without_ties(self):
        for many in (1, 3, 10):
            self.assertEqual(earliest(many, []), [0] * many)
            self.assertEqual(latest(many, []), [9999] * many)
            for life in range(many):
                self.assertEqual(gap(many, [], life, -1), 0)
                self.assertEqual(gap(many, [], -1, life), -9999)
                for other in range(many):
                    self.assertEqual(gap(many, [], life, other), 0 if life == other else -9999)

    def test_one_with_itself(self):
        ties = [(0, 1, 3), (-1, 0, -40)]
        for one in (-1, 0, 1):
            self.assertEqual(gap(2, ties, one, one), 0)

    def test_by_way_of_others(self):
        ties = [(0, 1, 30), (1, 2, 20), (2, -1, 10)]
        self.assertEqual(gap(3, ties, 0, 2), 50)
        self.assertEqual(gap(3, ties, 0, -1), 60)
        self.assertEqual(gap(3, ties, 2, 0), 10 - 9999)
        self.assertEqual(earliest(3, ties), [60, 30, 10])
        self.assertEqual(latest(3, ties), [9999, 9969, 9949])

    def test_bearing_at_the_gap_and_beside(self):
        ties = [(0, 1, 5), (1, 0, -8)]
        for least, word in ((-9999, "known"), (4, "known"), (5, "known"), (6, "news"), (8, "news"),
                            (9, "against"), (9999, "against")):
            self.assertEqual(bearing(2, ties, (0, 1, least)), word)
        for least, word in ((0, "known"), (1, "news"), (9999, "news")):
            self.assertEqual(bearing(1, [], (0, -1, least)), word)
        for least, word in ((-9999, "known"), (-9998, "news"), (0, "news"), (1, "against")):
            self.assertEqual(bearing(1, [], (-1, 0, least)), word)

    def test_bearing_beside_80_ties(self):
        self.assertEqual(bearing(2, [(0, 1, 5)] * 80, (0, 1, 6)), "news")

    def test_large_sets(self):
        chance = random.Random(71)
        for _ in range(100):
            many = chance.randint(2, 10)
            way, ties = brute.ties_of_a_way(chance, many, chance.randint(5, 80))
            first, last = earliest(many, ties), latest(many, ties)
            self.assertEqual(first, brute.raised_days(many, ties))
            self.assertEqual(last, brute.lowered_days(many, ties))
            for _ in range(5):
                one, other = chance.sample(range(-1, many), 2)
                least = gap(many, ties, one, other)
                # Held to the gap ties still can be, held to less they can't.
                self.assertIsNotNone(brute.raised_days(many, ties + [(other, one, -least)]))
                self.assertIsNone(brute.raised_days(many, ties + [(other, one, -least + 1)]))


class TestNewLists(unittest.TestCase):
    def test_told_lists_are_free(self):
        cant, can = [(0, 1, 1), (1, 0, 0)], [(0, 1, 1)]
        for ask, ties in ((ring, cant), (least_set, cant), (earliest, can), (latest, can)):
            with self.subTest(ask=ask.__name__):
                handed = list(ties)
                first = ask(2, ties)
                kept = list(first)
                first.clear()
                self.assertEqual(ties, handed)
                self.assertEqual(ask(2, ties), kept)

    def test_handed_ties_are_not_kept(self):
        ties = [(0, 1, 1)]
        self.assertEqual(earliest(2, ties), [1, 0])
        ties[0] = (0, 1, 2)
        self.assertEqual(earliest(2, ties), [2, 0])
        ties.clear()
        self.assertEqual(earliest(2, ties), [0, 0])


if __name__ == "__main__":
    unittest.main()
