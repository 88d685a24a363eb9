"""What a manor answers: held against the functions over the ties of all that stands, and against all ways."""

import random
import unittest

import brute
from bad import BAD_DAYS
from lifehold.beasts import beasts
from lifehold.errors import BadDay, HoldError, Idle, Missing, NoHolding, NoLife
from lifehold.may import enders, may_hold, shown, surely
from lifehold.pages import page, read
from lifehold.reach import days_of, fewest_days, most_days, sure_days
from lifehold.spans import Span
from lifehold.tight import earliest, latest
from manors import ManorCase, all_of, manor_of
from plain import Chance, Plain, Refused, ties_of_all, true_of

LIVES = ["dora", "ann", "cat", "bet"]


def days_about(low, high, start, end):
    """Days of the run about the windows, and at its sides."""
    last = 9999 if end is None else end - 1
    return [day for day in sorted({start, last, *range(low - 1, high + 2)}) if start <= day <= last]


class TestAgainstAllWays(ManorCase):
    """Manors whose lives all have narrow windows, so that all ways can be gone through one by one."""

    def small_manor(self, chance, base, width):
        """A manor and the deaths, by names, of all ways in which what stands is true."""
        lives = chance.sample(LIVES, chance.randint(1, 4))
        manor = manor_of(" ".join(lives))
        windows = []
        for life in lives:
            first = base + chance.randint(0, width)
            windows.append((first, min(9999, first + chance.randint(0, 4))))
            manor.present(("between", life, *windows[-1]))
        plain = Plain()
        plain.lives = lives
        maker = Chance(chance, base, width + 4)
        for _ in range(chance.randint(0, 8)):
            self.try_deed(manor, ("present", maker.row(plain)))
        for name in ("mill", "ann", "croft"):
            row = chance.sample(lives, chance.randint(1, len(lives)))
            manor.let(name, row, chance.choice([max(0, base - 3), base, base + chance.randint(0, width)]))
        for _ in range(6):
            plain.holdings = dict.fromkeys(manor.holdings())
            self.try_deed(manor, maker.deed(plain, weights=(0, 0, 2, 2, 1, 0, 0, 0)))
        said = [row for number, row in manor.presentments()]
        every = [dict(zip(lives, way)) for way in brute.all_ways(windows, [])]
        return manor, windows, [deaths for deaths in every if all(true_of(row, deaths) for row in said)]

    def try_deed(self, manor, deed):
        try:
            manor.do(deed)
        except (HoldError, Missing):
            pass

    def holder(self, row, deaths, day):
        return next((life for life in row if day < deaths[life]), "")

    def check_day(self, manor, ways, holding, day):
        row = manor.row_of(holding)
        able = {self.holder(row, deaths, day) for deaths in ways}
        want = [one for one in row + [""] if one in able]
        self.assertEqual(manor.may(holding, day), want)
        self.assertEqual(manor.sure(holding, day), want[0] if len(want) == 1 else None)
        for one in row + [""]:
            told = manor.shown(holding, day, one)
            if one not in able:
                self.assertIsNone(told)
                continue
            self.assertIsInstance(told, list)
            self.assertEqual([pair[0] for pair in told], manor.lives())
            self.assertTrue(all(isinstance(pair, tuple) for pair in told))
            self.assertIn(dict(told), ways)
            self.assertEqual(self.holder(row, dict(told), day), one)
        ending = []
        for life in manor.lives():
            known = {}
            for deaths in ways:
                known.setdefault(deaths[life], set()).add(self.holder(row, deaths, day))
            if all(len(ones) == 1 for ones in known.values()):
                ending.append(life)
        self.assertEqual(manor.enders(holding, day), ending)
        return len(want) > 1

    def span(self, days):
        return Span(min(days), max(days) + 1) if days else None

    def check_holding(self, manor, ways, holding, run):
        """Of a short run, each day is looked at."""
        row = manor.row_of(holding)
        for life in row:
            held = [{day for day in run if self.holder(row, deaths, day) == life} for deaths in ways]
            self.assertEqual(manor.days(holding, life), self.span(set.union(*held)))
            self.assertEqual(manor.certain(holding, life), self.span(set.intersection(*held)))
            counts = [len(days) for days in held]
            self.assertEqual(manor.held(holding, life), (min(counts), max(counts)))
        counts = []
        for deaths in ways:
            last = {life: deaths[life] - 1 for life in row}
            counts.append(sum(last[life] in run and self.holder(row, deaths, last[life]) == life for life in row))
        self.assertEqual(manor.beasts(holding), (min(counts), max(counts)))

    def test_small_manors(self):
        chance = random.Random(901)
        doubts = 0
        for _ in range(130):
            base = chance.choice([0, 40, 9985])
            manor, windows, ways = self.small_manor(chance, base, 6)
            self.assertTrue(ways)
            ahead = all_of(manor)
            for life in manor.lives():
                self.assertEqual(manor.dies(life), self.span({deaths[life] for deaths in ways}))
            low, high = min(low for low, high in windows), max(high for low, high in windows)
            for holding in manor.holdings():
                start, end = manor.term(holding)
                for day in days_about(low, high, start, end):
                    doubts += self.check_day(manor, ways, holding, day)
                # All later days than these are alike: none is there any more.
                last = 10000 if end is None else end
                self.check_holding(manor, ways, holding, range(start, min(last, high + 2)))
            self.assertEqual(all_of(manor), ahead)
        self.assertGreater(doubts, 200)


class TestAgainstTheFunctions(ManorCase):
    def names(self, manor, told):
        return ["" if one == -1 else manor.lives()[one] for one in told]

    def check_asks(self, chance, manor):
        lives = manor.lives()
        many, ties = len(lives), ties_of_all([row for number, row in manor.presentments()], lives)
        for at, life in enumerate(lives):
            self.assertEqual(manor.dies(life), Span(earliest(many, ties)[at], latest(many, ties)[at] + 1))
        for holding in manor.holdings():
            row = [lives.index(life) for life in manor.row_of(holding)]
            start, end = manor.term(holding)
            self.assertEqual(manor.beasts(holding), beasts(many, ties, row, start, end))
            for one in row:
                about = (many, ties, row, one, start, end)
                self.assertEqual(manor.days(holding, lives[one]), days_of(*about))
                self.assertEqual(manor.certain(holding, lives[one]), sure_days(*about))
                self.assertEqual(manor.held(holding, lives[one]), (fewest_days(*about), most_days(*about)))
            last = 9999 if end is None else end - 1
            for day in {start, last, chance.randint(start, last), min(last, start + chance.randint(0, 30))}:
                self.check_day(manor, many, ties, holding, row, day)

    def check_day(self, manor, many, ties, holding, row, day):
        self.assertEqual(manor.may(holding, day), self.names(manor, may_hold(many, ties, row, day)))
        one = surely(many, ties, row, day)
        self.assertEqual(manor.sure(holding, day), None if one is None else self.names(manor, [one])[0])
        self.assertEqual(manor.enders(holding, day), self.names(manor, enders(many, ties, row, day)))
        for one in row + [-1]:
            told = manor.shown(holding, day, self.names(manor, [one])[0])
            self.assertEqual(told is None, shown(many, ties, row, day, one) is None)
            if told is not None:
                way = [death for life, death in told]
                self.assertEqual([life for life, death in told], manor.lives())
                self.assertTrue(brute.keeps(way, ties) and all(0 <= death <= 9999 for death in way))
                self.assertEqual(brute.holder_of(row, way, day), one)

    def test_behind_deeds_takings_back_and_doings_again(self):
        for seed in range(12):
            chance = random.Random(910 + seed)
            maker = Chance(chance, chance.choice([0, 300, 9970]), 25)
            plain = Plain()
            manor = manor_of("")
            for step in range(150):
                word = chance.choices(["do", "undo", "redo"], [8, 1, 1])[0]
                try:
                    things = [maker.deed(plain)] if word == "do" else []
                    getattr(plain, word)(*things)
                except Refused:
                    continue
                getattr(manor, word)(*things)
                if step % 8 == 0:
                    self.check_asks(chance, manor)
            self.check_asks(chance, manor)
            self.check_asks(chance, manor.twin())
            self.check_asks(chance, read(page(manor)))

    def test_a_full_manor(self):
        chance = random.Random(930)
        names = ["a", "bb", "ccc", "d", "e", "f", "g", "h", "i", "jjjjjjjj"]
        way = [chance.randint(2000, 2100) for _ in names]
        manor = manor_of(" ".join(names))
        for name in "hgfedcba":
            manor.let(name, chance.sample(names, 4), chance.randint(1990, 2090))
        while len(manor) < 30:
            one, other = chance.sample(range(10), 2)
            later = way[one] - way[other]
            manor.present(chance.choice([
                ("between", names[one], way[one] - 30, way[one] + 30), ("alive", names[one], way[one] - 40),
                ("after", names[one], names[other], max(0, later - 9)) if later > 9 else ("on", names[one], way[one]),
                ("within", names[one], names[other], max(0, later + 9)),
            ]))
        self.check_asks(chance, manor)

    def test_one_life_in_the_rows_of_several_holdings(self):
        manor = manor_of("ann bet", [
            ("let", "mill", ("ann", "bet"), 5), ("let", "acre", ("bet", "ann"), 0), ("let", "ann", ("ann",), 20),
            ("present", ("between", "ann", 10, 20)), ("present", ("after", "bet", "ann", 5)),
            ("present", ("within", "bet", "ann", 9)),
        ])
        self.assertEqual((manor.may("mill", 14), manor.may("mill", 15)), (["ann", "bet"], ["ann", "bet", ""]))
        self.assertEqual(manor.may("acre", 15), ["bet", ""])
        self.assertEqual(manor.may("ann", 20), [""])
        self.assertEqual((manor.days("mill", "bet"), manor.days("mill", "ann")), (Span(10, 29), Span(5, 20)))
        self.assertEqual((manor.days("acre", "ann"), manor.days("ann", "ann")), (None, None))
        self.assertEqual((manor.held("mill", "bet"), manor.held("acre", "ann")), ((5, 9), (0, 0)))
        self.assertEqual((manor.certain("mill", "ann"), manor.certain("acre", "bet")), (Span(5, 10), Span(0, 15)))
        self.assertEqual((manor.beasts("mill"), manor.beasts("acre"), manor.beasts("ann")), ((2, 2), (1, 1), (0, 0)))
        self.assertEqual((manor.enders("mill", 14), manor.enders("mill", 15)), (["ann"], []))
        self.assertEqual((manor.dies("ann"), manor.dies("bet")), (Span(10, 21), Span(15, 30)))
        self.assertEqual((manor.sure("mill", 9), manor.sure("mill", 29), manor.sure("mill", 15)), ("ann", "", None))
        self.assertIsNone(manor.shown("acre", 15, "ann"))
        told = manor.shown("mill", 15, "bet")
        self.assertEqual([life for life, day in told], ["ann", "bet"])
        self.assertLessEqual(dict(told)["ann"], 15)
        self.assertGreater(dict(manor.shown("acre", 15, "bet"))["bet"], 15)
        self.assertLessEqual(dict(manor.shown("acre", 15, ""))["bet"], 15)


class TestRefusals(ManorCase):
    def setUp(self):
        self.manor = manor_of("ann bet cat", [
            ("let", "mill", ("ann", "bet"), 50), ("let", "gone", ("ann", "bet"), 50), ("give_up", "gone", 60),
            ("present", ("alive", "ann", 55)),
        ])
        self.of_day = [self.manor.may, self.manor.sure, self.manor.enders]
        self.of_life = [self.manor.days, self.manor.certain, self.manor.held]

    def test_of_a_day(self):
        for ask in self.of_day:
            for day in BAD_DAYS + [0, 50, 49]:
                for holding in ("who", "", "ann", "Mill"):
                    self.refused(NoHolding, ask, holding, day)
            for day in BAD_DAYS:
                self.refused(BadDay, ask, "mill", day)
                self.refused(BadDay, ask, "gone", day)
            for holding, day in (("mill", 0), ("mill", 49), ("gone", 49), ("gone", 60), ("gone", 61), ("gone", 9999)):
                self.refused(Idle, ask, holding, day)
            for holding, day in (("mill", 50), ("mill", 9999), ("gone", 50), ("gone", 59)):
                ask(holding, day)

    def test_shown(self):
        ask = self.manor.shown
        for life in ("ann", "bet", "cat", "who", "", "mill"):
            for day in BAD_DAYS + [0, 50, 49]:
                self.refused(NoHolding, ask, "who", day, life)
            for day in BAD_DAYS:
                self.refused(BadDay, ask, "mill", day, life)
            for holding, day in (("mill", 0), ("mill", 49), ("gone", 60), ("gone", 9999)):
                self.refused(Idle, ask, holding, day, life)
        for life in ("cat", "who", "mill", "-", "Ann"):
            self.refused(NoLife, ask, "mill", 50, life)
            self.refused(NoLife, ask, "gone", 59, life)
        for life in ("ann", "bet", ""):
            ask("mill", 9999, life)
            ask("gone", 59, life)

    def test_of_a_life(self):
        for ask in self.of_life:
            for life in ("ann", "cat", "who", ""):
                for holding in ("who", "", "ann"):
                    self.refused(NoHolding, ask, holding, life)
            for life in ("cat", "who", "", "mill"):
                self.refused(NoLife, ask, "mill", life)
                self.refused(NoLife, ask, "gone", life)
            ask("mill", "ann")
            ask("gone", "bet")

    def test_of_a_holding_or_a_life_alone(self):
        for holding in ("who", "", "ann"):
            self.refused(NoHolding, self.manor.beasts, holding)
        for life in ("who", "", "mill"):
            self.refused(NoLife, self.manor.dies, life)
        self.assertEqual(self.manor.dies("cat"), Span(0, 10000))
        self.assertEqual(self.manor.dies("ann"), Span(56, 10000))

    def test_an_end_of_10000(self):
        manor = read("manor 1\nlife ann\nhold mill 9990 10000 ann")
        self.assertEqual(manor.may("mill", 9999), [""])
        self.assertEqual(manor.days("mill", "ann"), Span(9990, 9999))
        self.refused(BadDay, manor.may, "mill", 10000)
        self.refused(Idle, manor.may, "mill", 9989)


if __name__ == "__main__":
    unittest.main()
