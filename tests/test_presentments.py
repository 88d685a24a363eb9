"""Presentments that stand in a manor: their numbers, Against and why, and how one more bears on them."""

import random
import unittest

import brute
from bad import FAR
from lifehold.errors import Against, BadDay, BadRow, Full, NoLife, NoPresentment
from lifehold.manor import Manor
from manors import ManorCase, all_of, manor_of
from plain import against_wrong, can_be, true_of

BAD_ROWS = [
    (), ("on",), ("on", "ann"), ("on", "ann", 5, 6), ("upon", "ann", 5), ("", "ann", 5), ("between", "ann", 5),
    ("alive", "ann"), ("after", "ann", 5), ("after", "ann", "ann", 5), ("within", "who", "who", -1),
    ("within", "ann", "bet", 5, 5), ("ann", "on", 5), ("between", "ann", 5, 6, 7),
]
STRANGERS = [
    ("on", "who", 5), ("on", "", 5), ("between", "who", 6, 5), ("alive", "who", 9999), ("after", "ann", "who", -1),
    ("after", "who", "ann", 10000), ("within", "who", "ann", FAR), ("on", "mill", -FAR),
]
BAD_DAYS = [
    ("on", "ann", -1), ("on", "ann", 10000), ("on", "ann", FAR), ("between", "ann", 6, 5), ("between", "ann", -1, 5),
    ("between", "ann", 5, 10000), ("between", "ann", -FAR, FAR), ("alive", "ann", 9999), ("alive", "ann", -1),
    ("after", "ann", "bet", -1), ("after", "ann", "bet", 10000), ("within", "ann", "bet", -1),
    ("within", "ann", "bet", FAR),
]
# Each can't be with ann's death on day 50.
AGAINST_50 = [("on", "ann", 49), ("between", "ann", 51, 9999), ("alive", "ann", 50), ("after", "ann", "bet", 51)]


class TestRefusals(ManorCase):
    def manors(self):
        """One with nothing said, one with something, and a full one."""
        told = [manor_of("ann bet", [("let", "mill", ("ann",), 5)])]
        for count in (1, 30):
            manor = told[0].twin()
            for _ in range(count):
                manor.present(("on", "ann", 50))
            told.append(manor)
        return told

    def test_in_their_order(self):
        for manor in self.manors():
            for rows, kind in ((BAD_ROWS, BadRow), (STRANGERS, NoLife), (BAD_DAYS, BadDay)):
                for row in rows:
                    self.refused(kind, manor.present, row)
                    self.refused(kind, manor.bearing, row)
                    self.refused(kind, manor.why, row)
                    if len(manor):
                        self.refused(kind, manor.right, 1, row)
                    for number in (0, -1, manor.coming(), FAR, -FAR):
                        self.refused(NoPresentment, manor.right, number, row)

    def test_against(self):
        bare, manor, full = self.manors()
        for row in AGAINST_50:
            self.assertEqual(self.refused(Against, manor.present, row).numbers, [1])
            self.refused(Full, full.present, row)
            self.assertEqual(bare.twin().present(row), 1)
        self.refused(Full, full.present, ("on", "ann", 50))

    def test_right_where_thirty_stand(self):
        bare, manor, full = self.manors()
        for row in AGAINST_50[:3]:
            told = self.refused(Against, full.right, 7, row).numbers
            self.assertEqual(len(told), 1)
            self.assertNotEqual(told, [7])
        self.assertIsNone(full.right(7, ("alive", "bet", 3)))
        self.assertEqual(len(full), 30)
        self.assertEqual(dict(full.presentments())[7], ("alive", "bet", 3))

    def test_right_is_against_the_others_alone(self):
        bare, manor, full = self.manors()
        for row in AGAINST_50:
            twin = manor.twin()
            self.assertIsNone(twin.right(1, row))
            self.assertEqual(twin.presentments(), [(1, row)])

    def test_no_presentment(self):
        for manor in self.manors():
            for number in (0, -1, manor.coming(), 31, FAR, -FAR):
                self.refused(NoPresentment, manor.strike, number)
                self.refused(NoPresentment, manor.right, number, ("on", "ann", 50))

    def test_no_life_at_all(self):
        manor = Manor()
        self.refused(NoLife, manor.present, ("on", "ann", 5))
        self.refused(NoLife, manor.bearing, ("on", "ann", -1))
        self.refused(NoLife, manor.why, ("on", "ann", 5))
        self.refused(BadRow, manor.why, ("after", "ann", "ann", 5))
        self.refused(NoLife, manor.dies, "ann")


class TestNumbers(ManorCase):
    def test_from_one_on(self):
        manor = manor_of("ann bet")
        self.assertEqual(manor.coming(), 1)
        for number in range(1, 31):
            self.assertEqual(manor.present(("alive", "ann", number)), number)
            self.assertEqual((manor.coming(), len(manor)), (number + 1, number))
        self.assertEqual(manor.presentments(), [(number, ("alive", "ann", number)) for number in range(1, 31)])

    def test_none_is_given_again(self):
        manor = manor_of("ann bet")
        for _ in range(3):
            manor.present(("on", "ann", 50))
        for number in (3, 1, 2):
            self.assertIsNone(manor.strike(number))
            self.refused(NoPresentment, manor.strike, number)
        self.assertEqual((len(manor), manor.coming()), (0, 4))
        self.assertEqual(manor.present(("on", "ann", 51)), 4)
        self.refused(Against, manor.present, ("on", "ann", 50))
        self.assertEqual(manor.present(("on", "ann", 51)), 5)
        self.assertIsNone(manor.right(4, ("alive", "ann", 50)))
        self.assertEqual(manor.present(("on", "ann", 51)), 6)

    def test_given_again_where_the_coming_was_taken_back(self):
        manor = manor_of("ann bet")
        self.assertEqual(manor.present(("on", "ann", 50)), 1)
        self.assertEqual(manor.present(("on", "bet", 50)), 2)
        manor.undo()
        self.assertEqual(manor.coming(), 2)
        self.assertEqual(manor.present(("on", "bet", 60)), 2)
        manor.strike(2)
        self.assertEqual(manor.coming(), 3)
        manor.undo()
        self.assertEqual((manor.coming(), len(manor)), (3, 2))
        manor.redo()
        self.assertEqual(manor.present(("on", "bet", 61)), 3)

    def test_room_again(self):
        manor = manor_of("ann")
        for number in range(30):
            manor.present(("alive", "ann", number))
        self.refused(Full, manor.present, ("alive", "ann", 3))
        manor.strike(12)
        self.assertEqual(manor.present(("alive", "ann", 3)), 31)
        self.refused(Full, manor.present, ("alive", "ann", 3))
        manor.undo()
        manor.undo()
        self.refused(Full, manor.present, ("alive", "ann", 3))
        manor.undo()
        self.assertEqual((len(manor), manor.coming()), (29, 30))
        self.assertEqual(manor.present(("alive", "ann", 4)), 30)


def ring_of_manor(chance, count):
    """A manor whose presentments make long chains, and a presentment that closes some of them to what can't be."""
    lives = ["ann", "bet", "cat", "dora", "eve", "fay", "gwen", "hob", "ida", "jo"][:count]
    manor = manor_of(" ".join(lives))
    for one, other in zip(lives[1:], lives):
        for _ in range(chance.choice([1, 1, 2])):
            manor.present(("after", one, other, chance.randint(1, 9)))
    for _ in range(5):
        manor.present(("alive", chance.choice(lives), chance.randint(0, 40)))
    return lives, manor, ("within", lives[-1], lives[0], chance.randint(0, count - 2))


class TestAgainst(ManorCase):
    def check(self, manor, row, others, numbers):
        self.assertIsNone(against_wrong(numbers, others, row, manor.lives()), (row, others, numbers))

    def test_long_rings(self):
        chance = random.Random(701)
        for count in list(range(2, 11)) * 3:
            lives, manor, row = ring_of_manor(chance, count)
            said = dict(manor.presentments())
            why = manor.why(row)
            self.assertEqual(manor.bearing(row), "against")
            self.assertGreaterEqual(len(why), count - 1)
            self.check(manor, row, said, why)
            self.assertEqual(self.refused(Against, manor.present, row).numbers, why)

    def test_a_presentment_of_two_ties(self):
        manor = manor_of("ann bet")
        manor.present(("between", "ann", 10, 20))
        manor.present(("between", "bet", 10, 20))
        for row in (("after", "ann", "bet", 11), ("after", "bet", "ann", 11)):
            self.assertEqual(self.refused(Against, manor.present, row).numbers, [1, 2])
        self.assertEqual(manor.why(("on", "ann", 21)), [1])
        self.assertEqual(manor.why(("on", "bet", 9)), [2])
        self.assertEqual(manor.why(("between", "ann", 20, 30)), [])

    def test_against_the_bounds(self):
        manor = manor_of("ann bet cat")
        manor.present(("after", "ann", "bet", 6000))
        told = self.refused(Against, manor.present, ("after", "bet", "cat", 4000)).numbers
        self.assertEqual(told, [1])
        self.assertEqual(manor.bearing(("after", "bet", "cat", 3999)), "news")
        self.assertEqual(manor.bearing(("alive", "bet", 3999)), "against")
        self.assertEqual(manor.why(("alive", "bet", 3998)), [])

    def test_each_alone_is_never_against(self):
        manor = manor_of("ann bet")
        for row in (
            ("on", "ann", 0), ("on", "ann", 9999), ("between", "ann", 0, 0), ("alive", "ann", 9998),
            ("after", "ann", "bet", 9999), ("within", "ann", "bet", 0), ("within", "ann", "bet", 9999),
        ):
            self.assertEqual(manor.why(row), [])
            self.assertNotEqual(manor.bearing(row), "against")
            self.assertEqual(manor.twin().present(row), 1)

    def test_right(self):
        chance = random.Random(702)
        refused = 0
        for _ in range(150):
            manor, lives = by_chance(chance, 5, chance.randint(3, 14))
            said = dict(manor.presentments())
            number, row = chance.choice(list(said)), some_row(chance, lives)
            others = {each: said[each] for each in said if each != number}
            if can_be([*others.values(), row], lives):
                self.assertIsNone(manor.right(number, row))
                self.assertEqual(dict(manor.presentments()), {**said, number: row})
            else:
                refused += 1
                told = self.refused(Against, manor.right, number, row).numbers
                self.check(manor, row, others, told)
                twin = manor.twin()
                twin.strike(number)
                self.assertEqual(twin.why(row), told)
        self.assertGreater(refused, 30)

    def test_numbers_that_are_free(self):
        manor = manor_of("ann", [("present", ("on", "ann", 5))])
        first = self.refused(Against, manor.present, ("on", "ann", 6))
        first.numbers.append(9)
        self.assertEqual(self.refused(Against, manor.present, ("on", "ann", 6)).numbers, [1])


def some_row(chance, lives, width=8):
    """A good presentment about the first days."""
    first, last = sorted([chance.randint(0, width), chance.randint(0, width)])
    life = chance.choice(lives)
    told = [("on", life, first), ("between", life, first, last), ("between", life, first, last), ("alive", life, first)]
    if len(lives) > 1:
        one, other = chance.sample(lives, 2)
        days = chance.randint(0, 5)
        told += [("after", one, other, days), ("within", one, other, days)] * 2
    return chance.choice(told)


def by_chance(chance, most, count):
    """A manor of 2 to so many lives, with about so many presentments, and its lives."""
    lives = ["ann", "bet", "cat", "dora", "eve"][:chance.randint(2, most)]
    manor = manor_of(" ".join(lives))
    while manor.coming() <= count:
        row = some_row(chance, lives)
        if manor.bearing(row) != "against":
            manor.present(row)
    return manor, lives


class TestBearing(ManorCase):
    def test_against_all_ways(self):
        """Every life's window is told first, so that all ways can be gone through."""
        chance = random.Random(703)
        seen = {}
        for _ in range(250):
            lives = ["ann", "bet", "cat"][:chance.randint(1, 3)]
            manor = manor_of(" ".join(lives), [("present", ("between", life, 0, 7)) for life in lives])
            for _ in range(chance.randint(0, 5)):
                row = some_row(chance, lives, 7)
                if manor.bearing(row) != "against":
                    manor.present(row)
            said = [row for number, row in manor.presentments()]
            ways = [dict(zip(lives, way)) for way in brute.all_ways([(0, 7)] * len(lives), [])]
            ways = [way for way in ways if all(true_of(row, way) for row in said)]
            self.assertTrue(ways)
            for _ in range(8):
                row = some_row(chance, lives)
                true = {true_of(row, way) for way in ways}
                want = "news" if len(true) == 2 else "known" if true == {True} else "against"
                ahead = all_of(manor)
                self.assertEqual(manor.bearing(row), want, (said, row))
                self.assertEqual(manor.bearing(list(row)), want)
                self.assertEqual(manor.why(row) != [], want == "against")
                self.assertEqual(all_of(manor), ahead)
                seen[row[0], want] = seen.get((row[0], want), 0) + 1
        for word in ("on", "between", "alive", "after", "within"):
            for want in ("known", "news", "against"):
                self.assertGreater(seen[word, want], 10, (word, want))

    def test_by_hand(self):
        manor = manor_of("ann bet", [("present", ("between", "ann", 10, 20)), ("present", ("after", "bet", "ann", 5))])
        known = [
            ("between", "ann", 10, 20), ("between", "ann", 9, 21), ("alive", "bet", 14), ("after", "bet", "ann", 5),
            ("within", "ann", "bet", 0), ("between", "ann", 0, 9999),
        ]
        news = [
            ("between", "ann", 10, 19), ("on", "ann", 15), ("alive", "bet", 15), ("alive", "bet", 9998),
            ("after", "bet", "ann", 6), ("within", "bet", "ann", 5),
        ]
        against = [("on", "ann", 9), ("within", "bet", "ann", 4), ("after", "ann", "bet", 0), ("on", "bet", 14)]
        for rows, want in ((known, "known"), (news, "news"), (against, "against")):
            for row in rows:
                self.assertEqual(manor.bearing(row), want, row)

    def test_what_stands_is_known(self):
        chance = random.Random(704)
        for _ in range(40):
            manor, lives = by_chance(chance, 5, 12)
            for number, row in manor.presentments():
                self.assertEqual((manor.bearing(row), manor.why(row)), ("known", []))


class TestOrder(ManorCase):
    """Presentments in another order, struck and told again, or put right on the way: answers alike."""

    def answers(self, manor):
        told = [manor.dies(life) for life in manor.lives()]
        for holding in manor.holdings():
            told.append(manor.beasts(holding))
            for life in manor.row_of(holding):
                told += [manor.days(holding, life), manor.certain(holding, life), manor.held(holding, life)]
            for day in range(manor.term(holding)[0], 16):
                told += [manor.may(holding, day), manor.sure(holding, day), manor.enders(holding, day)]
                told += [manor.shown(holding, day, life) is None for life in manor.row_of(holding) + [""]]
        return told

    def with_rows(self, lives, rows, deeds):
        manor = manor_of(" ".join(lives), deeds)
        for row in rows:
            manor.present(row)
        return manor

    def test_alike(self):
        chance = random.Random(705)
        for _ in range(40):
            made, lives = by_chance(chance, 5, chance.randint(2, 12))
            rows = [row for number, row in made.presentments()]
            some = [tuple(chance.sample(lives, chance.randint(1, min(4, len(lives))))) for _ in range(2)]
            deeds = [("let", "mill", some[0], 0), ("let", "acre", some[1], chance.randint(0, 9))]
            manor = self.with_rows(lives, rows, deeds)
            want = self.answers(manor)
            mixed = chance.sample(rows, len(rows))
            self.assertEqual(self.answers(self.with_rows(lives, mixed, deeds)), want)
            struck = manor.twin()
            for number, row in chance.sample(struck.presentments(), len(rows)):
                struck.strike(number)
                struck.present(row)
            self.assertEqual(self.answers(struck), want)
            self.assertNotEqual(struck, manor)
            # Each first as one that says nothing, so that it is never against the others.
            righted = self.with_rows(lives, [("between", lives[0], 0, 9999)] * len(rows), deeds)
            for number, row in chance.sample(list(enumerate(mixed, start=1)), len(rows)):
                righted.right(number, row)
            self.assertEqual(self.answers(righted), want)


if __name__ == "__main__":
    unittest.main()
