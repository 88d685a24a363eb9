"""From which day to which one a life may hold or holds for certain, and how many days, of all ways together."""

from lifehold.errors import NoLife
from lifehold.rows import check_row, check_run
from lifehold.spans import Span
from lifehold.ties import BEGINNING, checked_gaps, earliest_days, gaps_with, latest_days


def asked(many, ties, row, life, start, end):
    """The gaps of all, the lives ahead of this one in the row, and the number below which the run ends."""
    rows = checked_gaps(many, ties)
    check_row(many, row)
    below = check_run(start, end)
    if life not in row:
        raise NoLife("the life is not in the row")
    return rows, row[:row.index(life)], below


def span_between(firsts, untils):
    """The Span of the days that are below none of the firsts and below all untils, or None."""
    first, until = max(firsts), min(untils)
    if first >= until:
        return None
    return Span(first, until)


def margins(ahead, life, start, below):
    """Triples (one, other, more), each for a number of days: the one's day, less the other's, and more.

    In each way the life holds on as many days as the least of these, and on none where that is below 0: from the
    start or the last death of those ahead of it, whichever is later, to its own death or the end of the run.
    """
    lasts = [(life, 0), (BEGINNING, below)]
    firsts = [(BEGINNING, start)] + [(each, 0) for each in ahead]
    return [(one, other, late - early) for one, late in lasts for other, early in firsts]


def gaps_holding(rows, triples, count):
    """The gaps of the ways in which all margins are so many days at the least; None where there is none."""
    return gaps_with(rows, [(one, other, count - more) for one, other, more in triples])


def least_margin(rows, triples):
    """The least that a margin has in any way, with the one and the other of such a margin."""
    return min([(rows[one][other] + more, one, other) for one, other, more in triples])


def most_of(rows, triples):
    # Each margin alone has this many in some way, and so do all at once in one: a ring by way of several margins
    # falls into as many rings by way of one each, and of those none comes to more than 0.
    return max(0, min([more - rows[other][one] for one, other, more in triples]))


def days_of(many, ties, row, life, start=0, end=None):
    """The Span of the days of the run on which the life may hold, or None."""
    rows, ahead, below = asked(many, ties, row, life, start, end)
    narrowed = gaps_holding(rows, margins(ahead, life, start, below), 1)
    if narrowed is None:
        return None
    # Where it holds on some day of the run it does so in the way of all earliest days, and of all latest ones.
    early, late = earliest_days(narrowed), latest_days(narrowed)
    return span_between([start] + [early[each] for each in ahead], [late[life], below])


def sure_days(many, ties, row, life, start=0, end=None):
    """The Span of the days of the run on which the life holds for certain, or None."""
    rows, ahead, below = asked(many, ties, row, life, start, end)
    early, late = earliest_days(rows), latest_days(rows)
    return span_between([start] + [late[each] for each in ahead], [early[life], below])


def fewest_days(many, ties, row, life, start=0, end=None):
    """The least count of days of the run on which the life holds."""
    rows, ahead, below = asked(many, ties, row, life, start, end)
    least, one, other = least_margin(rows, margins(ahead, life, start, below))
    return max(0, least)


def most_days(many, ties, row, life, start=0, end=None):
    """The greatest count of days of the run on which the life holds."""
    rows, ahead, below = asked(many, ties, row, life, start, end)
    return most_of(rows, margins(ahead, life, start, below))


def fewest_way(many, ties, row, life, start=0, end=None):
    """A way in which the life holds on the fewest days."""
    rows, ahead, below = asked(many, ties, row, life, start, end)
    least, one, other = least_margin(rows, margins(ahead, life, start, below))
    return earliest_days(gaps_with(rows, [(other, one, -rows[one][other])]))


def most_way(many, ties, row, life, start=0, end=None):
    """A way in which the life holds on the most days."""
    rows, ahead, below = asked(many, ties, row, life, start, end)
    triples = margins(ahead, life, start, below)
    most = most_of(rows, triples)
    # Where it holds on no day in any way, a margin may be below 0, and all ways do.
    if most == 0:
        return earliest_days(rows)
    return earliest_days(gaps_holding(rows, triples, most))
