import random
import unittest

import brute
from bad import FAR, RefusalCase
from lifehold.errors import BadDay, BadRow, NoLife
from lifehold.present import said, ties_of
from plain import true_of

TEN = ["a", "bet", "cat", "dora", "eve", "fay", "gwen", "hobbaaaa", "ida", "zo"]
BAD_NUMBERS = [-1, 10000, 10001, FAR, -FAR]


def near(chance, days):
    """A day on, or by, one of these, or any."""
    day = chance.choice(days) + chance.choice([-1, 0, 0, 1])
    return min(9999, max(0, chance.choice([day, day, chance.randint(0, 9999), 0, 9999])))


def some_presentments(chance, names):
    """One of each kind, with lives of the names."""
    day = chance.choice([0, 9999, chance.randint(0, 9999)])
    days = chance.choice([0, 1, 9999, chance.randint(0, 9999)])
    first, last = sorted([near(chance, [day]), near(chance, [day])])
    life = chance.choice(names)
    told = [("on", life, day), ("between", life, first, last), ("between", life, day, day)]
    told.append(("alive", life, min(day, 9998)))
    if len(names) > 1:
        one, other = chance.sample(names, 2)
        told += [("after", one, other, days), ("within", one, other, days)]
    return told


class TestTies(unittest.TestCase):
    def ways(self, chance, row, names):
        """Ways about the days that the presentment tells of, at whose sides it turns true or false."""
        days = [thing for thing in row if isinstance(thing, int)]
        for _ in range(12):
            way = {name: near(chance, days) for name in names}
            if row[0] in ("after", "within"):
                way[row[1]] = min(9999, max(0, way[row[2]] + near(chance, days)))
            yield way

    def test_kept_by_just_the_days_it_speaks_of(self):
        chance = random.Random(601)
        seen = {}
        for _ in range(150):
            names = chance.sample(TEN, chance.randint(1, 10))
            for row in some_presentments(chance, names):
                handed = list(names)
                ties = ties_of(row, names)
                self.assertEqual(names, handed)
                self.assertIsInstance(ties, list)
                for deaths in self.ways(chance, row, names):
                    way = [deaths[name] for name in names]
                    true = true_of(row, deaths)
                    self.assertEqual(brute.keeps(way, ties), true, (row, deaths))
                    seen[row[0], true] = seen.get((row[0], true), 0) + 1
        for word in ("on", "between", "alive", "after", "within"):
            for true in (True, False):
                self.assertGreater(seen[word, true], 100, (word, true))

    def test_each_tie_is_one(self):
        chance = random.Random(602)
        for _ in range(100):
            names = chance.sample(TEN, chance.randint(1, 10))
            for row in some_presentments(chance, names):
                for one, other, least in ties_of(row, names):
                    self.assertNotEqual(one, other)
                    self.assertTrue(-1 <= one < len(names) and -1 <= other < len(names))
                    self.assertTrue(-9999 <= least <= 9999)

    def test_by_all_days_of_one_life(self):
        rows = [
            ("on", "a", 0), ("on", "a", 9999), ("on", "a", 41), ("between", "a", 0, 9999), ("between", "a", 0, 0),
            ("between", "a", 9998, 9999), ("between", "a", 7, 30), ("alive", "a", 0), ("alive", "a", 9998),
            ("alive", "a", 30),
        ]
        for row in rows:
            ties = ties_of(row, ["a"])
            for day in range(10000):
                if brute.keeps([day], ties) != true_of(row, {"a": day}):
                    self.fail((row, day))

    def test_thirty_presentments_are_few_enough_ties(self):
        for row in some_presentments(random.Random(603), TEN):
            self.assertLessEqual(31 * len(ties_of(row, TEN)), 80)

    def test_rows_may_be_lists_and_are_not_changed(self):
        row, names = ["between", "bet", 3, 8], list(TEN)
        ties = ties_of(row, names)
        self.assertEqual(ties, ties_of(("between", "bet", 3, 8), TEN))
        self.assertEqual((row, names), (["between", "bet", 3, 8], TEN))
        kept = list(ties)
        ties.append((0, 1, 2))
        self.assertEqual(ties_of(row, names), kept)


GOOD = [("on", "a", 5), ("between", "a", 5, 8), ("alive", "a", 5), ("after", "a", "bet", 5), ("within", "a", "bet", 5)]


class TestRefusals(RefusalCase):
    def test_first_text_and_count(self):
        for row in GOOD:
            ties_of(row, TEN)
            for names in (TEN, [], ["zo"]):
                for first in ("", "On", "on ", "ON", "upon", "betwixt", "a", "afte", "x" * 4000):
                    self.refused(BadRow, ties_of, (first,) + row[1:], names)
                for bad in (row[:-1], row[:1], row + (5,), row + (FAR,), row + ("a",), row[:2], ()):
                    if len(bad) != len(row):
                        self.refused(BadRow, ties_of, bad, names)

    def test_the_count_of_another_kind(self):
        self.refused(BadRow, ties_of, ("on", "a", 5, 8), TEN)
        self.refused(BadRow, ties_of, ("alive", "a", 5, 8), TEN)
        self.refused(BadRow, ties_of, ("between", "a", 5), TEN)
        self.refused(BadRow, ties_of, ("after", "a", 5), TEN)
        self.refused(BadRow, ties_of, ("within", "a", 5), TEN)

    def test_a_life_twice_ahead_of_strangers_and_days(self):
        for word in ("after", "within"):
            for names in (["a"], ["a", "bet"], [], TEN):
                for days in [5, 0] + BAD_NUMBERS:
                    self.refused(BadRow, ties_of, (word, "a", "a", days), names)
                    self.refused(BadRow, ties_of, (word, "who", "who", days), names)

    def test_strangers_ahead_of_days(self):
        for names in ([], ["a"], ["bet"], ["zo", "cat"]):
            for days in [5, 0, 9999] + BAD_NUMBERS:
                for word in ("after", "within"):
                    self.refused(NoLife, ties_of, (word, "a", "bet", days), names)
                    self.refused(NoLife, ties_of, (word, "bet", "a", days), names)
                for word in ("on", "alive"):
                    self.refused(NoLife, ties_of, (word, "who", days), names)
                    self.refused(NoLife, ties_of, (word, "", days), names)
                self.refused(NoLife, ties_of, ("between", "who", days, 3), names)
                self.refused(NoLife, ties_of, ("between", "who", 3, days), names)

    def test_days(self):
        for bad in BAD_NUMBERS:
            self.refused(BadDay, ties_of, ("on", "a", bad), TEN)
            self.refused(BadDay, ties_of, ("alive", "a", bad), TEN)
            self.refused(BadDay, ties_of, ("between", "a", bad, 5), TEN)
            self.refused(BadDay, ties_of, ("between", "a", 5, bad), TEN)
            self.refused(BadDay, ties_of, ("between", "a", bad, bad), TEN)
            self.refused(BadDay, ties_of, ("after", "a", "bet", bad), TEN)
            self.refused(BadDay, ties_of, ("within", "a", "bet", bad), TEN)

    def test_a_last_ahead_of_the_first(self):
        self.refused(BadDay, ties_of, ("between", "a", 6, 5), TEN)
        self.refused(BadDay, ties_of, ("between", "a", 9999, 0), TEN)
        ties_of(("between", "a", 5, 5), TEN)

    def test_alive_on_the_last_day(self):
        self.assertTrue(brute.keeps([9999], ties_of(("alive", "a", 9998), ["a"])))
        self.assertFalse(brute.keeps([9998], ties_of(("alive", "a", 9998), ["a"])))
        self.refused(BadDay, ties_of, ("alive", "a", 9999), TEN)
        self.refused(NoLife, ties_of, ("alive", "who", 9999), TEN)
        ties_of(("on", "a", 9999), TEN)


class TestSaid(unittest.TestCase):
    def test_by_hand(self):
        for row, text in (
            (("on", "anne", 0), "on anne 0000"),
            (("on", "anne", 9999), "on anne 9999"),
            (("alive", "b", 37), "alive b 0037"),
            (("between", "anne", 3, 412), "between anne 0003 0412"),
            (("after", "anne", "bet", 0), "after anne bet 0"),
            (("after", "anne", "bet", 37), "after anne bet 37"),
            (("within", "bet", "anne", 9999), "within bet anne 9999"),
            (("within", "bet", "anne", 412), "within bet anne 412"),
        ):
            self.assertEqual(said(row), text)
            self.assertEqual(said(list(row)), text)


if __name__ == "__main__":
    unittest.main()
