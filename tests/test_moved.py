"""All days of lives, ties, rows and runs moved by so many: spans are moved, and counts alike."""

import random
import unittest

import brute
from lifehold.beasts import beasts, beasts_ways
from lifehold.may import enders, may_hold, shown, surely
from lifehold.reach import days_of, fewest_days, fewest_way, most_days, most_way, sure_days
from lifehold.rows import holder, in_holding, turns

OF_DAY = [may_hold, surely, enders]
SPANS = [days_of, sure_days]
COUNTS = [fewest_days, most_days]
WAYS = [fewest_way, most_way]


def moved_ties(ties, by):
    told = []
    for one, other, least in ties:
        if other == -1:
            least += by
        elif one == -1:
            least -= by
        told.append((one, other, least))
    return told


def windowed_sets(seed, count):
    """Some (many, ties) about day 1000; with both ends of each window among the ties, the bounds have no say."""
    chance = random.Random(seed)
    for _ in range(count):
        many = chance.randint(1, 10)
        way = [1000 + chance.randint(-30, 30) for _ in range(many)]
        ties = brute.window_ties([(day - chance.randint(0, 20), day + chance.randint(0, 20)) for day in way])
        if many > 1:
            for _ in range(chance.randint(0, 20)):
                one, other = chance.sample(range(many), 2)
                ties.append((one, other, way[one] - way[other] - chance.choice([0, 1, 9])))
        yield many, ties, way


class TestMoved(unittest.TestCase):
    def setUp(self):
        self.chance = random.Random(501)

    def runs(self):
        for many, ties, way in windowed_sets(502, 150):
            row = brute.some_rows(self.chance, many, 1)[0]
            start, end = sorted(self.chance.sample(range(940, 1060), 2))
            by = self.chance.choice([-940, -1, 1, 37, 8940, self.chance.randint(-900, 8900)])
            yield many, ties, way, row, start, end, by

    def test_in_one_way(self):
        for many, ties, way, row, start, end, by in self.runs():
            later = [day + by for day in way]
            self.assertEqual(holder(row, later, start + by), holder(row, way, start))
            self.assertEqual(in_holding(row, later, start + by, end + by), in_holding(row, way, start, end))
            spans = [(life, span.moved(by)) for life, span in turns(row, way, start, end)]
            self.assertEqual(turns(row, later, start + by, end + by), spans)

    def test_who_may_hold(self):
        for many, ties, way, row, day, end, by in self.runs():
            later = moved_ties(ties, by)
            for ask in OF_DAY:
                self.assertEqual(ask(many, later, row, day + by), ask(many, ties, row, day))
            for one in row + [-1]:
                told = shown(many, later, row, day + by, one)
                self.assertEqual(told is None, shown(many, ties, row, day, one) is None)
                if told is not None:
                    self.assertEqual(holder(row, [each - by for each in told], day), one)

    def test_how_long(self):
        for many, ties, way, row, start, end, by in self.runs():
            later = moved_ties(ties, by)
            for life in row:
                for ask in SPANS:
                    span = ask(many, ties, row, life, start, end)
                    want = None if span is None else span.moved(by)
                    self.assertEqual(ask(many, later, row, life, start + by, end + by), want)
                for ask, ask_way in zip(COUNTS, WAYS):
                    count = ask(many, ties, row, life, start, end)
                    self.assertEqual(ask(many, later, row, life, start + by, end + by), count)
                    told = ask_way(many, later, row, life, start + by, end + by)
                    held = dict(turns(row, [day - by for day in told], start, end))
                    self.assertEqual(len(held[life]) if life in held else 0, count)

    def test_deaths_in_holding(self):
        for many, ties, way, row, start, end, by in self.runs():
            later = moved_ties(ties, by)
            counts = beasts(many, ties, row, start, end)
            self.assertEqual(beasts(many, later, row, start + by, end + by), counts)
            for told, count in zip(beasts_ways(many, later, row, start + by, end + by), counts):
                self.assertEqual(len(in_holding(row, [day - by for day in told], start, end)), count)


if __name__ == "__main__":
    unittest.main()
