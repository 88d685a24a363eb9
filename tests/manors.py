"""Manors for tests, and what they tell of themselves."""

import unittest

from lifehold.errors import HoldError, Missing, Nothing
from lifehold.manor import Manor


def all_of(manor):
    """All that a manor tells of itself, but for what can be done again."""
    holdings = [(name, manor.row_of(name), manor.term(name)) for name in manor.holdings()]
    return manor.lives(), holdings, manor.presentments(), manor.coming(), manor.past(), len(manor), repr(manor)


def undone_of(manor):
    """The deeds that can be done again."""
    twin, told = manor.twin(), []
    while True:
        try:
            told.append(twin.redo())
        except Nothing:
            return told


def outcome(ask, *things):
    """What is told, or the class of the refusal."""
    try:
        return ("told", ask(*things))
    except (HoldError, Missing) as refusal:
        return ("no", refusal.__class__.__name__)


def manor_of(lives, deeds=()):
    """A manor with these lives, a text with blanks between, behind these deeds."""
    manor = Manor()
    for name in lives.split():
        manor.life(name)
    for deed in deeds:
        manor.do(deed)
    return manor


class ManorCase(unittest.TestCase):
    def refused(self, kind, ask, *things):
        """See to it that a manor's method refuses, and that nothing changes."""
        manor = ask.__self__
        ahead, undone = all_of(manor), undone_of(manor)
        with self.subTest(ask=ask.__name__, things=things):
            with self.assertRaises(kind) as caught:
                ask(*things)
            self.assertIs(caught.exception.__class__, kind)
            self.assertEqual(all_of(manor), ahead)
            self.assertEqual(undone_of(manor), undone)
        return caught.exception
