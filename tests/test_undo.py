"""Taking back, doing again, deeds as tuples, twins, and when manors are equal."""

import random
import unittest

from lifehold.errors import Against, HoldError, Missing, Nothing
from lifehold.manor import Manor
from lifehold.pages import page, read
from manors import ManorCase, all_of, manor_of, undone_of
from plain import Chance, Plain, Refused

# Deeds of all eight kinds, one behind the other.
DEEDS = [
    ("life", "anne"), ("life", "bet"), ("life", "cat"), ("life", "dora"), ("let", "mill", ("anne", "bet"), 12),
    ("put_in", "mill", "cat"), ("present", ("between", "anne", 5, 30)), ("change", "mill", 2, "dora"),
    ("present", ("after", "bet", "anne", 3)), ("right", 1, ("on", "anne", 9)), ("strike", 2),
    ("let", "anne", ("bet",), 0), ("give_up", "anne", 40), ("present", ("within", "bet", "anne", 0)),
    ("give_up", "mill", 13), ("present", ("alive", "anne", 3)),
]


class TestTakingBack(ManorCase):
    def test_each_kind(self):
        self.assertEqual(len({deed[0] for deed in DEEDS}), 8)
        manor = Manor()
        stands = [all_of(manor)]
        for count, deed in enumerate(DEEDS):
            told = getattr(manor, deed[0])(*deed[1:])
            self.assertEqual(told is None, deed[0] != "present")
            self.assertEqual(manor.past(), DEEDS[:count + 1])
            stands.append(all_of(manor))
        for count in range(len(DEEDS) - 1, -1, -1):
            self.assertEqual(manor.undo(), DEEDS[count])
            self.assertEqual(all_of(manor), stands[count])
            self.assertEqual(undone_of(manor), DEEDS[count:])
        self.refused(Nothing, manor.undo)
        for count, deed in enumerate(DEEDS):
            self.assertEqual(manor.redo(), deed)
            self.assertEqual(all_of(manor), stands[count + 1])
        self.refused(Nothing, manor.redo)

    def test_do(self):
        manor, other = Manor(), Manor()
        for deed in DEEDS:
            want = getattr(other, deed[0])(*deed[1:])
            self.assertEqual(manor.do(deed), want)
            self.assertEqual(all_of(manor), all_of(other))
            self.assertEqual(manor, other)

    def test_do_lets_all_go_that_was_taken_back(self):
        manor = manor_of("anne bet")
        manor.undo()
        manor.do(("life", "cat"))
        self.refused(Nothing, manor.redo)

    def test_do_is_refused_as_the_deed_is(self):
        manor = manor_of("anne", [("let", "mill", ("anne",), 5), ("present", ("on", "anne", 9))])
        for deed in (
            ("life", "anne"), ("life", ""), ("let", "mill", ("anne",), 5), ("put_in", "mill", "anne"),
            ("change", "mill", 1, "anne"), ("give_up", "mill", 5), ("present", ("on", "anne", 8)),
            ("right", 2, ("on", "anne", 8)), ("strike", 2),
        ):
            with self.assertRaises((HoldError, Missing)) as one:
                getattr(manor, deed[0])(*deed[1:])
            self.refused(one.exception.__class__, manor.do, deed)

    def test_nothing_at_first(self):
        manor = Manor()
        self.refused(Nothing, manor.undo)
        self.refused(Nothing, manor.redo)
        manor.life("anne")
        self.refused(Nothing, manor.redo)

    def test_as_the_document_has_it(self):
        manor = manor_of("anne bet")
        manor.let("mill", ["anne", "bet"], 12)
        self.assertEqual(manor.undo(), ("let", "mill", ("anne", "bet"), 12))
        self.assertEqual(manor.redo(), ("let", "mill", ("anne", "bet"), 12))

    def test_a_deed_done_otherwise_lets_all_go(self):
        for deed in (("life", "eve"), ("strike", 1), ("right", 1, ("on", "anne", 9)), ("present", ("on", "anne", 9))):
            manor = Manor()
            for each in DEEDS:
                manor.do(each)
            for _ in range(5):
                manor.undo()
            manor.do(deed)
            self.refused(Nothing, manor.redo)
            self.assertEqual(manor.undo(), deed)
            self.assertEqual(manor.redo(), deed)

    def test_the_very_deed_done_otherwise_lets_all_go_too(self):
        manor = manor_of("anne bet cat")
        manor.undo()
        manor.undo()
        manor.life("bet")
        self.refused(Nothing, manor.redo)

    def test_a_refused_one_lets_nothing_go(self):
        deeds = [("let", "mill", ("anne",), 5), ("present", ("on", "anne", 9)), ("present", ("on", "bet", 9))]
        manor = manor_of("anne bet", deeds)
        manor.undo()
        self.refused(Against, manor.present, ("on", "anne", 10))
        for ask, things in (
            (manor.life, ["anne"]), (manor.let, ["mill", ["anne"], 5]), (manor.put_in, ["mill", "anne"]),
            (manor.change, ["mill", 7, "bet"]), (manor.give_up, ["mill", 5]), (manor.right, [2, ("on", "bet", 9)]),
            (manor.strike, [2]),
        ):
            with self.assertRaises((HoldError, Missing)):
                ask(*things)
            self.assertEqual(undone_of(manor), [("present", ("on", "bet", 9))])
        self.assertEqual(manor.redo(), ("present", ("on", "bet", 9)))
        self.assertEqual(len(manor), 2)

    def test_asking_lets_nothing_go(self):
        deeds = [("let", "mill", ("anne", "bet"), 5), ("present", ("on", "anne", 9)), ("life", "cat")]
        manor = manor_of("anne bet", deeds)
        manor.undo()
        ahead = all_of(manor)
        manor.may("mill", 5)
        manor.sure("mill", 5)
        manor.shown("mill", 5, "bet")
        manor.enders("mill", 5)
        manor.days("mill", "bet")
        manor.certain("mill", "bet")
        manor.held("mill", "bet")
        manor.beasts("mill")
        manor.dies("bet")
        manor.bearing(("on", "bet", 5))
        manor.why(("on", "anne", 5))
        page(manor)
        manor.twin()
        self.assertEqual(all_of(manor), ahead)
        self.assertEqual(undone_of(manor), [("life", "cat")])

    def test_a_deed_that_changes_nothing_is_one(self):
        manor = manor_of("anne", [("present", ("on", "anne", 9)), ("right", 1, ("on", "anne", 9))])
        self.assertEqual(manor.undo(), ("right", 1, ("on", "anne", 9)))
        self.assertEqual(manor.undo(), ("present", ("on", "anne", 9)))


class TestTwins(ManorCase):
    def halfway(self):
        manor = Manor()
        for deed in DEEDS:
            manor.do(deed)
        for _ in range(6):
            manor.undo()
        return manor

    def test_stands_alike(self):
        manor = self.halfway()
        twin = manor.twin()
        self.assertIsNot(twin, manor)
        self.assertIsInstance(twin, Manor)
        self.assertEqual(twin, manor)
        self.assertEqual(all_of(twin), all_of(manor))
        for _ in range(6):
            self.assertEqual(twin.redo(), manor.redo())
            self.assertEqual(all_of(twin), all_of(manor))
        self.refused(Nothing, twin.redo)
        for _ in DEEDS:
            self.assertEqual(twin.undo(), manor.undo())
            self.assertEqual(all_of(twin), all_of(manor))
        self.refused(Nothing, twin.undo)

    def test_each_goes_its_own_way(self):
        for deed in (
            ("life", "eve"), ("let", "acre", ("bet",), 3), ("put_in", "anne", "cat"), ("strike", 1),
            ("present", ("on", "bet", 9)),
        ):
            manor = self.halfway()
            for _ in range(2):
                manor.redo()
            twin = manor.twin()
            ahead, undone = all_of(manor), undone_of(manor)
            twin.do(deed)
            self.assertEqual((all_of(manor), undone_of(manor)), (ahead, undone))
            self.assertNotEqual(twin, manor)
            behind = all_of(twin)
            for _ in range(4):
                manor.redo()
            while manor.past():
                manor.undo()
            self.assertEqual(all_of(twin), behind)
            self.assertEqual(undone_of(twin), [])
            twin.undo()
            self.assertEqual(all_of(twin), ahead)

    def test_a_twin_of_a_twin(self):
        manor = self.halfway()
        twin = manor.twin()
        twin.redo()
        third = twin.twin()
        third.undo()
        third.undo()
        self.assertEqual(third.redo(), DEEDS[-7])
        self.assertEqual(third, manor)
        self.assertEqual(all_of(third), all_of(manor))
        third.life("eve")
        self.assertEqual(twin.past(), DEEDS[:-5])
        self.assertEqual(manor.past(), DEEDS[:-6])
        self.assertEqual(third.past(), DEEDS[:-6] + [("life", "eve")])

    def test_twins_by_chance(self):
        chance = random.Random(801)
        for _ in range(30):
            pairs = [(Manor(), Plain(), Chance(random.Random(chance.random())))]
            for deed in DEEDS[:chance.randint(3, 7)]:
                self.assertEqual(pairs[0][0].do(deed), pairs[0][1].do(deed))
            for _ in range(60):
                at = chance.randrange(len(pairs))
                manor, plain, maker = pairs[at]
                if chance.random() < 0.1 and len(pairs) < 5:
                    other = Plain()
                    other.set_state(plain.state())
                    other.done, other.undone = list(plain.done), list(plain.undone)
                    pairs.append((manor.twin(), other, maker))
                    continue
                word = chance.choice(["do", "do", "do", "undo", "redo"])
                things = [maker.deed(plain)] if word == "do" else []
                try:
                    want = getattr(plain, word)(*things)
                except Refused:
                    with self.assertRaises((HoldError, Missing)):
                        getattr(manor, word)(*things)
                else:
                    self.assertEqual(getattr(manor, word)(*things), want)
                for each, model, maker in pairs:
                    self.assertEqual(each.past(), model.past())
                    self.assertEqual(undone_of(each), [deed for deed, behind in reversed(model.undone)])
                    self.assertEqual((each.lives(), each.presentments()), (model.lives, sorted(model.said.items())))


class TestEqual(unittest.TestCase):
    def same(self, one, other):
        self.assertTrue(one == other)
        self.assertTrue(other == one)
        self.assertFalse(one != other)
        self.assertFalse(other != one)

    def unlike(self, one, other):
        self.assertFalse(one == other)
        self.assertFalse(other == one)
        self.assertTrue(one != other)
        self.assertTrue(other != one)

    def test_empty_ones(self):
        self.same(Manor(), Manor())
        manor = Manor()
        self.same(manor, manor)

    def test_what_is_no_manor(self):
        for manor in (Manor(), manor_of("anne")):
            for thing in (None, 0, "", "manor 1", [], (), {}, 1, repr(manor), page(manor), object()):
                self.unlike(manor, thing)

    def test_what_was_done_does_not_count(self):
        manor = manor_of("anne", [("let", "mill", ("anne",), 5)])
        other = manor_of("anne", [("let", "mill", ("anne",), 5), ("life", "bet")])
        self.unlike(manor, other)
        other.undo()
        self.same(manor, other)
        self.same(read(page(manor)), manor)

    def test_the_order_of_lives(self):
        self.unlike(manor_of("anne bet"), manor_of("bet anne"))
        self.unlike(manor_of("anne"), manor_of("anne bet"))
        self.unlike(manor_of("anne"), manor_of("bet"))

    def test_whatever_order_of_holdings(self):
        lets = [("let", "mill", ("anne", "bet"), 5), ("let", "acre", ("bet",), 7), ("let", "croft", ("bet", "anne"), 5)]
        chance = random.Random(802)
        for _ in range(6):
            self.same(manor_of("anne bet", lets), manor_of("anne bet", chance.sample(lets, 3)))

    def test_holdings(self):
        let = ("let", "mill", ("anne", "bet"), 5)
        manor = manor_of("anne bet", [let])
        for deeds in (
            [], [("let", "acre", ("anne", "bet"), 5)], [("let", "mill", ("bet", "anne"), 5)],
            [("let", "mill", ("anne",), 5)], [("let", "mill", ("anne", "bet"), 6)], [let, ("give_up", "mill", 9)],
            [let, ("let", "acre", ("anne",), 5)],
        ):
            self.unlike(manor, manor_of("anne bet", deeds))
        self.same(manor, manor_of("anne bet", [("let", "mill", ("anne",), 5), ("put_in", "mill", "bet")]))

    def test_an_end_of_10000_is_not_none(self):
        text = "manor 1\nlife anne\nhold mill 0005 {} anne"
        self.unlike(read(text.format("10000")), read(text.format("-")))
        self.same(read(text.format("-")), manor_of("anne", [("let", "mill", ("anne",), 5)]))

    def test_presentments_by_their_numbers(self):
        on, alive = ("on", "anne", 9), ("alive", "anne", 8)
        manor = manor_of("anne", [("present", on), ("present", alive)])
        self.unlike(manor, manor_of("anne", [("present", alive), ("present", on)]))
        self.unlike(manor, manor_of("anne", [("present", on)]))
        self.unlike(manor, manor_of("anne", [("present", on), ("present", ("between", "anne", 9, 9999))]))
        turned = [("present", alive), ("present", on), ("right", 1, on), ("right", 2, alive)]
        self.same(manor, manor_of("anne", turned))

    def test_the_next_number(self):
        manor = manor_of("anne")
        other = manor_of("anne", [("present", ("on", "anne", 9)), ("strike", 1)])
        self.assertEqual((manor.presentments(), other.presentments()), ([], []))
        self.unlike(manor, other)
        other.undo()
        other.undo()
        self.same(manor, other)

    def test_what_comes_to_the_same_but_is_said_otherwise(self):
        on, between = ("present", ("on", "anne", 9)), ("present", ("between", "anne", 9, 9))
        self.unlike(manor_of("anne", [on]), manor_of("anne", [between]))


class TestShown(unittest.TestCase):
    def test_length_and_showing(self):
        manor = Manor()
        self.assertEqual((len(manor), repr(manor)), (0, "Manor(0 lives, 0 holdings, 0 presentments)"))
        for deed in (
            ("life", "anne"), ("life", "bet"), ("let", "mill", ("anne",), 5), ("present", ("on", "anne", 9)),
            ("present", ("on", "anne", 9)), ("present", ("on", "anne", 9)),
        ):
            manor.do(deed)
        self.assertEqual((len(manor), repr(manor)), (3, "Manor(2 lives, 1 holdings, 3 presentments)"))
        manor.strike(2)
        self.assertEqual((len(manor), repr(manor)), (2, "Manor(2 lives, 1 holdings, 2 presentments)"))
        manor.right(1, ("on", "anne", 9))
        self.assertEqual(len(manor), 2)
        self.assertEqual(repr(manor_of("anne")), "Manor(1 lives, 0 holdings, 0 presentments)")


if __name__ == "__main__":
    unittest.main()
