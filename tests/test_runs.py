"""Runs of deeds by chance, taken back and done again, held against a manor gone through plainly."""

import random
import unittest

from lifehold.errors import Against
from lifehold.manor import Manor
from lifehold.pages import page, read
from manors import all_of, outcome
from plain import Chance, Plain, Refused, against_wrong, row_refusals

WORDS = ["life", "let", "put_in", "change", "give_up", "present", "right", "strike"]
# All that can be refused of deeds, takings back and doings again.
REFUSALS = [
    ("life", "BadName"), ("life", "Taken"), ("life", "Full"), ("let", "BadName"), ("let", "Taken"), ("let", "BadRow"),
    ("let", "NoLife"), ("let", "BadDay"), ("let", "Full"), ("put_in", "NoHolding"), ("put_in", "NoLife"),
    ("put_in", "GivenUp"), ("put_in", "Twice"), ("put_in", "Full"), ("change", "NoHolding"), ("change", "NoPlace"),
    ("change", "NoLife"), ("change", "GivenUp"), ("change", "Twice"), ("change", "Held"), ("give_up", "NoHolding"),
    ("give_up", "BadDay"), ("give_up", "GivenUp"), ("present", "BadRow"), ("present", "NoLife"),
    ("present", "BadDay"), ("present", "Against"), ("right", "NoPresentment"), ("right", "BadRow"),
    ("right", "NoLife"), ("right", "BadDay"), ("right", "Against"), ("strike", "NoPresentment"),
    ("undo", "Nothing"), ("redo", "Nothing"),
]


def plain_outcome(ask, *things):
    try:
        return ("told", ask(*things))
    except Refused as refusal:
        return ("no", refusal.name)


def all_of_plain(plain):
    holdings = [(name, row, (start, end)) for name, (row, start, end) in sorted(plain.holdings.items())]
    counts = (len(plain.lives), len(plain.holdings), len(plain.said))
    shown = "Manor({} lives, {} holdings, {} presentments)".format(*counts)
    return plain.lives, holdings, sorted(plain.said.items()), plain.next, plain.past(), len(plain.said), shown


class TestRuns(unittest.TestCase):
    def check_questions_ahead(self, manor, plain, deed):
        """What bearing and why tell of a presentment ahead of its deed; the numbers that Against is to have."""
        row = deed[-1]
        refused = plain_outcome(row_refusals, row, plain.lives)
        if refused[0] == "no":
            self.assertEqual(outcome(manor.bearing, row), refused)
            self.assertEqual(outcome(manor.why, row), refused)
            return None
        why = manor.why(row)
        self.assertEqual(manor.bearing(row) == "against", why != [])
        if why:
            self.assertIsNone(against_wrong(why, plain.said, row, plain.lives))
        return why

    def do(self, manor, plain, deed):
        why = self.check_questions_ahead(manor, plain, deed) if deed[0] == "present" else None
        others = plain.others(deed[1]) if deed[0] == "right" else plain.said
        want = plain_outcome(plain.do, deed)
        if want == ("no", "Against"):
            with self.assertRaises(Against) as caught:
                manor.do(deed)
            numbers = caught.exception.numbers
            self.assertIsNone(against_wrong(numbers, others, deed[-1], plain.lives))
            if why is not None:
                self.assertEqual(numbers, why)
        else:
            self.assertEqual(outcome(getattr(manor, deed[0]), *deed[1:]), want, deed)
            if deed[0] == "present" and want[0] == "told":
                self.assertEqual(why, [])
        return want

    def step(self, manor, plain, maker):
        """One deed, taking back or doing again; its word, and what came of it."""
        back = plain.undone and maker.chance.random() < 0.5
        if back or maker.chance.random() < 0.1:
            word = maker.chance.choice(["undo", "redo"])
            want = plain_outcome(getattr(plain, word))
            self.assertEqual(outcome(getattr(manor, word)), want)
            return word, want
        deed = maker.deed(plain)
        return deed[0], self.do(manor, plain, deed)

    def run_of(self, seed, steps, **about):
        chance = random.Random(seed)
        maker = Chance(chance, **about)
        manor, plain = Manor(), Plain()
        seen = []
        for _ in range(steps):
            word, want = self.step(manor, plain, maker)
            seen.append((word, want[1] if want[0] == "no" else ""))
            self.assertEqual(all_of(manor), all_of_plain(plain))
        written = page(manor)
        again = read(written)
        self.assertEqual(again, manor)
        self.assertEqual(page(again), written)
        self.assertEqual(again.past(), [])
        return seen, manor, plain

    def test_runs(self):
        seen = []
        for seed in range(60):
            base = [0, 100, 9985][seed % 3]
            seen += self.run_of(seed, 280, base=base, width=14)[0]
        for word in WORDS + ["undo", "redo"]:
            self.assertGreater(seen.count((word, "")), 100, word)
        for case in REFUSALS:
            self.assertGreater(seen.count(case), 3, case)

    def test_hundreds_of_deeds_taken_back_to_nothing_and_done_again(self):
        for seed in range(3):
            seen, manor, plain = self.run_of(1000 + seed, 900, base=100, width=40)
            deeds = manor.past()
            self.assertGreater(len(deeds), 200)
            stands = [all_of(manor)]
            for deed in reversed(deeds):
                self.assertEqual(manor.undo(), deed)
                stands.append(all_of(manor))
            self.assertEqual(outcome(manor.undo), ("no", "Nothing"))
            self.assertEqual(manor, Manor())
            self.assertEqual(all_of(manor), all_of(Manor()))
            # What has been taken back by the run itself was let go by the deeds that came behind, or is on top.
            for deed, stand in zip(deeds, reversed(stands[:-1])):
                self.assertEqual(manor.redo(), deed)
                self.assertEqual(all_of(manor), stand)
            fresh = Manor()
            for deed in deeds:
                fresh.do(deed)
            self.assertEqual(fresh, manor)
            self.assertEqual(all_of(fresh), all_of(manor))

    def test_full_manors(self):
        """Many presentments that can be together, so that thirty stand."""
        full = 0
        for seed in range(6):
            chance = random.Random(2000 + seed)
            maker = Chance(chance, base=50, width=900)
            manor, plain = Manor(), Plain()
            for _ in range(260):
                deed = maker.deed(plain, weights=(2, 1, 1, 1, 1, 12, 2, 1))
                if deed[0] == "present" and chance.random() < 0.6 and plain.lives:
                    life = chance.choice(plain.lives)
                    deed = ("present", ("between", life, chance.randint(0, 40), chance.randint(950, 9999)))
                want = self.do(manor, plain, deed)
                full += deed[0] == "present" and want == ("no", "Full")
                self.assertEqual(all_of(manor), all_of_plain(plain))
        self.assertGreater(full, 20)


if __name__ == "__main__":
    unittest.main()
