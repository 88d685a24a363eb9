"""A manor of lives, holdings and presentments."""

from lifehold.asks import (
    bearing_of, counts_dying, counts_held, span_maybe, span_of_death, span_surely, way_shown, who_ends, who_may,
    who_surely, why_not,
)
from lifehold.deeds import as_told, behind_deed
from lifehold.errors import Nothing
from lifehold.standing import Standing, tenure_of


class Manor:
    """Lives, holdings and presentments, changed by deeds that can be taken back and done again."""

    def __init__(self):
        self.standing = Standing((), {}, {}, 1)
        # Pairs of a deed and what stood ahead of it; of those taken back, and what stood behind it.
        self.done = []
        self.undone = []

    def __eq__(self, other):
        return isinstance(other, Manor) and self.standing == other.standing

    def __len__(self):
        return len(self.standing.sayings)

    def __repr__(self):
        return f"Manor({len(self.lives())} lives, {len(self.holdings())} holdings, {len(self)} presentments)"

    def life(self, name):
        """A life more."""
        return self.do(("life", name))

    def let(self, name, row, day):
        """A holding more, let from the day on for the lives of the row."""
        return self.do(("let", name, row, day))

    def put_in(self, holding, life):
        """A life more, behind the row."""
        return self.do(("put_in", holding, life))

    def change(self, holding, at, life):
        """Another life in the place of the one at a place of the row, from 0."""
        return self.do(("change", holding, at, life))

    def give_up(self, holding, day):
        """The day is the end of the holding."""
        return self.do(("give_up", holding, day))

    def present(self, row):
        """A presentment more; tells its number."""
        return self.do(("present", row))

    def right(self, number, row):
        """The presentment of this number is another one now."""
        return self.do(("right", number, row))

    def strike(self, number):
        """The presentment of this number stands no more."""
        return self.do(("strike", number))

    def do(self, deed):
        """Do a deed, a tuple of its name and what is handed in, and tell what it tells."""
        kept = as_told(deed)
        ahead = self.standing
        self.standing = behind_deed(ahead, kept)
        self.done.append((kept, ahead))
        self.undone = []
        if kept[0] == "present":
            return ahead.following
        return None

    def undo(self):
        """Take back the last deed done, and tell it."""
        if not self.done:
            raise Nothing("there is nothing to take back")
        deed, ahead = self.done.pop()
        self.undone.append((deed, self.standing))
        self.standing = ahead
        return deed

    def redo(self):
        """Do the deed again that was taken back last, and tell it."""
        if not self.undone:
            raise Nothing("there is nothing to do again")
        deed, behind = self.undone.pop()
        self.done.append((deed, self.standing))
        self.standing = behind
        return deed

    def twin(self):
        """A manor that stands alike, with the same to take back and to do again."""
        other = Manor()
        other.standing = self.standing
        other.done = list(self.done)
        other.undone = list(self.undone)
        return other

    def lives(self):
        return list(self.standing.names)

    def holdings(self):
        return sorted(self.standing.tenures)

    def row_of(self, holding):
        row, start, end = tenure_of(self.standing, holding)
        return list(row)

    def term(self, holding):
        """The start and the end, None where there is no end."""
        row, start, end = tenure_of(self.standing, holding)
        return (start, end)

    def presentments(self):
        """Pairs of a number and its presentment, rising."""
        return [(number, self.standing.sayings[number]) for number in sorted(self.standing.sayings)]

    def coming(self):
        """The number that comes next."""
        return self.standing.following

    def past(self):
        """The deeds done and not taken back."""
        return [deed for deed, ahead in self.done]

    def may(self, holding, day):
        """Who may hold on the day, "" for fallen in."""
        return who_may(self.standing, holding, day)

    def sure(self, holding, day):
        """Who holds for certain on the day, "" for fallen in; None in doubt."""
        return who_surely(self.standing, holding, day)

    def shown(self, holding, day, life):
        """A way in which the life, "" for fallen in, holds on the day, as pairs (life, day of death); or None."""
        return way_shown(self.standing, holding, day, life)

    def enders(self, holding, day):
        """The lives that end the doubt about the day."""
        return who_ends(self.standing, holding, day)

    def days(self, holding, life):
        """The Span of the days on which the life may hold, or None."""
        return span_maybe(self.standing, holding, life)

    def certain(self, holding, life):
        """The Span of the days on which the life holds for certain, or None."""
        return span_surely(self.standing, holding, life)

    def held(self, holding, life):
        """The fewest and the most days that the life holds."""
        return counts_held(self.standing, holding, life)

    def beasts(self, holding):
        """The fewest and the most deaths in holding."""
        return counts_dying(self.standing, holding)

    def dies(self, life):
        """The Span of the days on which the life can have died."""
        return span_of_death(self.standing, life)

    def bearing(self, row):
        """Whether a presentment more is known, against those that stand, or news."""
        return bearing_of(self.standing, row)

    def why(self, row):
        """The numbers that Against would have, if the presentment is against those that stand."""
        return why_not(self.standing, row)
