import string
import unittest

from bad import BAD_DAYS, FAR
from lifehold.errors import (
    BadDay, BadName, BadRow, Full, GivenUp, Held, NoHolding, NoLife, NoPlace, Taken, Twice,
)
from lifehold.manor import Manor
from manors import ManorCase, all_of, manor_of

TEN = "ann bet cat dora eve fay gwen hob ida jo"
BAD_NAMES = [
    "", " ", "Ann", "aNn", "a1", "a b", " a", "a ", "a\n", "\na", "-", "a-b", "a_b", "abcdefghi", "a" * 4000, "`", "{",
    "@", "[", "~", "a.b", "9",
]
GOOD_NAMES = ["a", "z", "ab", "abcdefgh", "zzzzzzzz", "life", "let", "on"]
EIGHT = ["a", "b", "c", "d", "e", "f", "g", "h"]


class TestLife(ManorCase):
    def test_let(self):
        manor = Manor()
        for count, name in enumerate(GOOD_NAMES):
            self.assertIsNone(manor.life(name))
            self.assertEqual(manor.lives(), GOOD_NAMES[:count + 1])
        self.assertEqual(manor.past(), [("life", name) for name in GOOD_NAMES])

    def test_every_letter(self):
        for letter in string.ascii_lowercase:
            manor = Manor()
            manor.life(letter)
            self.assertEqual(manor.lives(), [letter])

    def test_bad_name(self):
        for manor in (Manor(), manor_of("ann"), manor_of(TEN)):
            for name in BAD_NAMES:
                self.refused(BadName, manor.life, name)

    def test_taken(self):
        manor = manor_of("ann bet")
        self.refused(Taken, manor.life, "ann")
        self.refused(Taken, manor.life, "bet")

    def test_full(self):
        manor = manor_of(TEN)
        self.assertEqual(len(manor.lives()), 10)
        self.refused(Full, manor.life, "kit")
        self.refused(Taken, manor.life, "jo")
        self.refused(BadName, manor.life, "Jo")
        manor.undo()
        manor.life("kit")
        self.assertEqual(manor.lives()[-1], "kit")
        self.refused(Full, manor.life, "jo")

    def test_a_holding_may_bear_the_name(self):
        manor = manor_of("ann", [("let", "bet", ("ann",), 0), ("let", "ann", ("ann",), 0)])
        manor.life("bet")
        self.refused(Taken, manor.life, "ann")
        self.refused(Taken, manor.let, "ann", ["bet"], 0)
        self.assertEqual((manor.lives(), manor.holdings()), (["ann", "bet"], ["ann", "bet"]))


class TestLet(ManorCase):
    def test_let(self):
        manor = manor_of(TEN)
        for count in range(1, 5):
            name = EIGHT[count]
            row = TEN.split()[::-1][:count]
            self.assertIsNone(manor.let(name, row, 7 * count))
            self.assertEqual((manor.row_of(name), manor.term(name)), (row, (7 * count, None)))
        self.assertIsNone(manor.let("first", ["ann"], 0))
        self.assertIsNone(manor.let("last", ["ann"], 9999))
        self.assertEqual(manor.holdings(), ["b", "c", "d", "e", "first", "last"])
        self.assertEqual((manor.term("first"), manor.term("last")), ((0, None), (9999, None)))

    def test_holdings_are_told_rising(self):
        manor = manor_of("ann")
        for name in ("mill", "b", "acre", "ba", "z"):
            manor.let(name, ["ann"], 5)
        self.assertEqual(manor.holdings(), ["acre", "b", "ba", "mill", "z"])

    def test_each_refusal(self):
        manor = manor_of(TEN, [("let", "mill", ("ann",), 5)])
        for name in BAD_NAMES:
            self.refused(BadName, manor.let, name, ["ann"], 5)
        self.refused(Taken, manor.let, "mill", ["bet"], 5)
        some = TEN.split()
        for row in ([], some[:5], some, ["ann", "ann"], ["ann", "bet", "ann"], ["who", "who"], ["ann"] * 100):
            self.refused(BadRow, manor.let, "croft", row, 5)
        for row in (["who"], ["ann", "who"], ["who", "ann"], [""], ["Ann"], ["a" * 4000], ["mill"]):
            self.refused(NoLife, manor.let, "croft", row, 5)
        for day in BAD_DAYS:
            self.refused(BadDay, manor.let, "croft", ["ann"], day)

    def test_full(self):
        manor = manor_of("ann", [("let", name, ("ann",), 0) for name in EIGHT])
        self.refused(Full, manor.let, "mill", ["ann"], 0)
        for day in BAD_DAYS:
            self.refused(BadDay, manor.let, "mill", ["ann"], day)
        self.refused(NoLife, manor.let, "mill", ["who"], -1)
        self.refused(BadRow, manor.let, "mill", ["who", "who"], -1)
        self.refused(Taken, manor.let, "h", ["who", "who"], -1)
        self.refused(BadName, manor.let, "H", ["who", "who"], -1)
        manor.undo()
        manor.let("mill", ["ann"], 0)
        self.refused(Full, manor.let, "h", ["ann"], 0)

    def test_several_due(self):
        manor = manor_of("ann", [("let", "mill", ("ann",), 5)])
        for day in [5] + BAD_DAYS:
            for row in ([], ["who"], ["who", "who"], ["ann"], ["ann"] * 5):
                self.refused(BadName, manor.let, "Mill", row, day)
                self.refused(Taken, manor.let, "mill", row, day)
            for row in ([], ["who", "who"], ["ann", "bet", "cat", "dora", "eve"]):
                self.refused(BadRow, manor.let, "croft", row, day)
            self.refused(NoLife, manor.let, "croft", ["ann", "who"], day)

    def test_no_life_at_all(self):
        manor = Manor()
        self.refused(NoLife, manor.let, "mill", ["ann"], 5)
        self.refused(BadRow, manor.let, "mill", [], 5)


class TestPutIn(ManorCase):
    def test_put_in(self):
        manor = manor_of(TEN, [("let", "mill", ("cat",), 5), ("let", "croft", ("ann",), 5)])
        for count, name in enumerate(("jo", "ann", "ida")):
            self.assertIsNone(manor.put_in("mill", name))
            self.assertEqual(manor.row_of("mill"), ["cat", "jo", "ann", "ida"][:count + 2])
        self.assertEqual((manor.row_of("croft"), manor.term("mill")), (["ann"], (5, None)))

    def test_each_refusal(self):
        manor = manor_of(TEN, [
            ("let", "mill", ("ann", "bet"), 5), ("let", "full", ("ann", "bet", "cat", "dora"), 5),
            ("let", "gone", ("ann", "bet", "cat", "dora"), 5), ("give_up", "gone", 9),
        ])
        for holding in ("who", "", "Mill", "ann", "a" * 4000):
            self.refused(NoHolding, manor.put_in, holding, "eve")
            self.refused(NoHolding, manor.put_in, holding, "who")
        for life in ("who", "", "mill", "Ann"):
            self.refused(NoLife, manor.put_in, "mill", life)
            self.refused(NoLife, manor.put_in, "gone", life)
            self.refused(NoLife, manor.put_in, "full", life)
        self.refused(GivenUp, manor.put_in, "gone", "eve")
        self.refused(GivenUp, manor.put_in, "gone", "ann")
        self.refused(Twice, manor.put_in, "mill", "ann")
        self.refused(Twice, manor.put_in, "mill", "bet")
        self.refused(Twice, manor.put_in, "full", "dora")
        self.refused(Full, manor.put_in, "full", "eve")

    def test_room_again_behind_a_deed_taken_back(self):
        manor = manor_of(TEN, [("let", "mill", ("ann", "bet", "cat"), 5), ("put_in", "mill", "dora")])
        self.refused(Full, manor.put_in, "mill", "eve")
        manor.undo()
        manor.put_in("mill", "eve")
        self.assertEqual(manor.row_of("mill"), ["ann", "bet", "cat", "eve"])


class TestChange(ManorCase):
    def test_change(self):
        manor = manor_of(TEN, [("let", "mill", ("ann", "bet", "cat", "dora"), 5)])
        row = ["ann", "bet", "cat", "dora"]
        for at, life in ((0, "eve"), (3, "fay"), (1, "ann"), (2, "bet"), (3, "dora"), (0, "cat")):
            self.assertIsNone(manor.change("mill", at, life))
            row[at] = life
            self.assertEqual((manor.row_of("mill"), manor.term("mill")), (row, (5, None)))

    def test_each_refusal(self):
        manor = manor_of(TEN, [
            ("let", "mill", ("ann", "bet"), 5), ("let", "gone", ("ann", "bet"), 5), ("give_up", "gone", 9),
            ("present", ("alive", "ann", 8)),
        ])
        for holding in ("who", "", "ann"):
            for at in (0, 1, 2, -1, FAR, -FAR):
                for life in ("cat", "who", "ann"):
                    self.refused(NoHolding, manor.change, holding, at, life)
        for at in (2, 3, 4, -1, -2, FAR, -FAR):
            for holding in ("mill", "gone"):
                for life in ("cat", "who", "ann"):
                    self.refused(NoPlace, manor.change, holding, at, life)
        for life in ("who", "", "mill"):
            for at in (0, 1):
                self.refused(NoLife, manor.change, "mill", at, life)
                self.refused(NoLife, manor.change, "gone", at, life)
        for life in ("cat", "ann", "bet"):
            self.refused(GivenUp, manor.change, "gone", 0, life)
            self.refused(GivenUp, manor.change, "gone", 1, life)
        for life in ("ann", "bet"):
            self.refused(Twice, manor.change, "mill", 0, life)
            self.refused(Twice, manor.change, "mill", 1, life)
        self.refused(Held, manor.change, "mill", 0, "cat")
        manor.change("mill", 1, "cat")

    def test_held_at_its_edge(self):
        # Ann is there on day 4 for certain, and no day later on.
        manor = manor_of("ann bet", [("present", ("alive", "ann", 4)), ("let", "mill", ("ann",), 5)])
        twin = manor.twin()
        twin.change("mill", 0, "bet")
        manor.present(("alive", "ann", 5))
        self.refused(Held, manor.change, "mill", 0, "bet")
        manor.strike(2)
        manor.change("mill", 0, "bet")

    def test_held_of_a_later_one_at_its_edge(self):
        manor = manor_of("ann bet cat", [
            ("let", "mill", ("ann", "bet"), 5), ("present", ("between", "ann", 3, 20)),
            ("present", ("alive", "bet", 19)),
        ])
        manor.twin().change("mill", 1, "cat")
        # On day 20 ann is dead for certain, and bet is there.
        manor.right(2, ("alive", "bet", 20))
        self.refused(Held, manor.change, "mill", 1, "cat")
        manor.change("mill", 0, "cat")
        # Nothing is known of cat, who is ahead of her now.
        manor.change("mill", 1, "ann")

    def test_held_ahead_of_the_start(self):
        manor = manor_of("ann bet", [("let", "mill", ("ann",), 9999), ("present", ("alive", "ann", 9998))])
        # None is there on the last day.
        manor.change("mill", 0, "bet")

    def test_held_of_one_that_never_holds(self):
        manor = manor_of("ann bet cat", [
            ("let", "mill", ("ann", "bet"), 0), ("present", ("within", "bet", "ann", 0)),
            ("present", ("alive", "bet", 50)),
        ])
        self.refused(Held, manor.change, "mill", 0, "cat")
        manor.change("mill", 1, "cat")


class TestGiveUp(ManorCase):
    def test_give_up(self):
        manor = manor_of("ann", [("let", name, ("ann",), 5) for name in ("a", "b", "c")])
        manor.let("d", ["ann"], 9998)
        for name, day in (("a", 6), ("b", 9999), ("c", 400), ("d", 9999)):
            self.assertIsNone(manor.give_up(name, day))
            self.assertEqual(manor.term(name)[1], day)
            self.assertEqual(manor.row_of(name), ["ann"])

    def test_each_refusal(self):
        manor = manor_of("ann", [
            ("let", "mill", ("ann",), 5), ("let", "gone", ("ann",), 5), ("give_up", "gone", 9),
            ("let", "late", ("ann",), 9999),
        ])
        for day in [0, 4, 5, 6, 9] + BAD_DAYS:
            for holding in ("who", "", "ann"):
                self.refused(NoHolding, manor.give_up, holding, day)
        for day in [0, 4, 5] + BAD_DAYS:
            self.refused(BadDay, manor.give_up, "mill", day)
            self.refused(BadDay, manor.give_up, "gone", day)
        for day in [0, 9998, 9999] + BAD_DAYS:
            self.refused(BadDay, manor.give_up, "late", day)
        for day in (6, 8, 9, 10, 9999):
            self.refused(GivenUp, manor.give_up, "gone", day)
        manor.give_up("mill", 6)
        self.refused(GivenUp, manor.give_up, "mill", 6)


class TestLists(ManorCase):
    def test_refused_by_name(self):
        manor = manor_of("ann", [("let", "mill", ("ann",), 5)])
        for holding in ("", "ann", "Mill", "mil", "millx", "a" * 4000):
            self.refused(NoHolding, manor.row_of, holding)
            self.refused(NoHolding, manor.term, holding)

    def test_an_empty_one(self):
        manor = Manor()
        self.assertEqual(all_of(manor), ([], [], [], 1, [], 0, "Manor(0 lives, 0 holdings, 0 presentments)"))

    def test_rows_handed_in_as_lists_are_copied(self):
        manor = manor_of("ann bet")
        row, said, more = ["ann", "bet"], ["on", "ann", 5], ["alive", "bet", 8]
        manor.let("mill", row, 5)
        manor.present(said)
        manor.present(("on", "bet", 9))
        manor.right(2, more)
        deed = ["let", "croft", row, 7]
        manor.do(deed)
        ahead = all_of(manor)
        self.assertEqual((row, said, more), (["ann", "bet"], ["on", "ann", 5], ["alive", "bet", 8]))
        self.assertEqual(deed, ["let", "croft", row, 7])
        row.append("cat")
        row[0] = "who"
        said[2] = 77
        more.clear()
        deed[1] = "mead"
        self.assertEqual(all_of(manor), ahead)
        self.assertEqual(manor.row_of("mill"), ["ann", "bet"])
        self.assertEqual(manor.presentments(), [(1, ("on", "ann", 5)), (2, ("alive", "bet", 8))])
        told = [manor.undo() for _ in range(7)]
        self.assertEqual(told[0], ("let", "croft", ("ann", "bet"), 7))
        self.assertEqual(told[1], ("right", 2, ("alive", "bet", 8)))
        self.assertEqual(told[3], ("present", ("on", "ann", 5)))
        self.assertEqual(told[4], ("let", "mill", ("ann", "bet"), 5))
        for _ in told:
            manor.redo()
        self.assertEqual(all_of(manor), ahead)

    def test_told_lists_are_free(self):
        manor = manor_of("ann bet", [
            ("let", "mill", ("ann", "bet"), 5), ("present", ("between", "ann", 10, 20)),
            ("present", ("after", "bet", "ann", 3)),
        ])
        against = ("on", "ann", 50)
        asks = {
            "lives": manor.lives, "holdings": manor.holdings, "row_of": lambda: manor.row_of("mill"),
            "presentments": manor.presentments, "past": manor.past, "may": lambda: manor.may("mill", 15),
            "shown": lambda: manor.shown("mill", 15, "bet"), "enders": lambda: manor.enders("mill", 15),
            "why": lambda: manor.why(against), "numbers": lambda: self.refused_numbers(manor, against),
        }
        ahead = all_of(manor)
        for name, ask in asks.items():
            with self.subTest(name=name):
                told = ask()
                self.assertIsInstance(told, list)
                kept = list(told)
                told.append("more")
                told[0] = "other"
                self.assertEqual(ask(), kept)
                told.clear()
                self.assertEqual(ask(), kept)
        self.assertEqual(all_of(manor), ahead)

    def refused_numbers(self, manor, row):
        with self.assertRaises(ValueError) as caught:
            manor.present(row)
        return caught.exception.numbers


if __name__ == "__main__":
    unittest.main()
