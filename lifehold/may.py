"""Who may hold on a day, who holds for certain, and who ends the doubt, of all ways together."""

from lifehold.errors import NoLife
from lifehold.rows import NOBODY, check_day, check_row
from lifehold.ties import BEGINNING, checked_gaps, earliest_days, gaps_with, latest_days


def holding_ties(row, day, life):
    """The ties that make the life, or -1, the holder on the day."""
    ahead = row if life == NOBODY else row[:row.index(life)]
    told = [(BEGINNING, each, -day) for each in ahead]
    if life != NOBODY:
        told.append((life, BEGINNING, day + 1))
    return told


def asked_gaps(many, ties, row, day):
    """The gaps of all, with the refusals of whoever asks about a day."""
    rows = checked_gaps(many, ties)
    check_row(many, row)
    check_day(day)
    return rows


def holders(many, ties, row, day):
    """Pairs of each one that may hold, in the order of the row, -1 last, and the gaps of the ways in which it does."""
    rows = asked_gaps(many, ties, row, day)
    told = []
    for life in list(row) + [NOBODY]:
        narrowed = gaps_with(rows, holding_ties(row, day, life))
        if narrowed is not None:
            told.append((life, narrowed))
    return told


def may_hold(many, ties, row, day):
    """Those that hold on the day in some way, in the order of the row, -1 last."""
    return [life for life, narrowed in holders(many, ties, row, day)]


def surely(many, ties, row, day):
    """The one that holds on the day in all ways, or None in doubt."""
    able = may_hold(many, ties, row, day)
    if len(able) > 1:
        return None
    return able[0]


def shown(many, ties, row, day, life):
    """A way in which the life, or -1, holds on the day; None where there is none."""
    rows = asked_gaps(many, ties, row, day)
    if life != NOBODY and life not in row:
        raise NoLife("the life is not in the row")
    narrowed = gaps_with(rows, holding_ties(row, day, life))
    if narrowed is None:
        return None
    return earliest_days(narrowed)


def are_apart(windows):
    """Whether no two windows, pairs of a first and a last day, have a day in common."""
    rising = sorted(windows)
    return all([rising[k][1] < rising[k + 1][0] for k in range(len(rising) - 1)])


def enders(many, ties, row, day):
    """The lives, of the row or not, whose day of death, once known, leaves one alone that may hold."""
    spread = [(earliest_days(rows), latest_days(rows)) for life, rows in holders(many, ties, row, day)]
    # A life can have died on each day from its earliest to its latest one, also among the ways of one holder alone.
    return [life for life in range(many) if are_apart([(early[life], late[life]) for early, late in spread])]
