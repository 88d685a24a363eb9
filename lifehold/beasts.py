"""How many lives of a row die in holding, at the least and at the most, of all ways together."""

from lifehold.rows import check_row, check_run
from lifehold.ties import BEGINNING, checked_gaps, earliest_days, gaps_with


def dying(row, place, start, below):
    """The choices by which the life at the place dies in holding, or may do as it likes: (count, ties)."""
    life = row[place]
    ties = [(life, BEGINNING, start + 1), (BEGINNING, life, -below)]
    return [(1, ties + [(life, each, 1) for each in row[:place]]), (0, [])]


def not_dying(row, place, start, below):
    """The choices by which the life at the place doesn't die in holding, or may do as it likes: (count, ties)."""
    life = row[place]
    told = [(0, [(BEGINNING, life, -start)]), (0, [(life, BEGINNING, below + 1)])]
    for each in row[:place]:
        told.append((0, [(each, life, 0)]))
    # Left free it is counted as if it died so: at worst one too many, and then a choice above comes to fewer.
    told.append((1, []))
    return told


def with_choices(states, choices):
    """Each state, of a count and gaps, with each of the choices that can be there."""
    told = []
    for count, rows in states:
        for more, ties in choices:
            narrowed = gaps_with(rows, ties)
            if narrowed is not None:
                told.append((count + more, narrowed))
    return told


def count_of(state):
    return state[0]


def extremes(many, ties, row, start, end):
    """Two states, of a count and the gaps of ways that have it: the fewest and the most deaths in holding."""
    rows = checked_gaps(many, ties)
    check_row(many, row)
    below = check_run(start, end)
    few = [(0, rows)]
    lots = [(0, rows)]
    for place in range(len(row)):
        few = with_choices(few, not_dying(row, place, start, below))
        lots = with_choices(lots, dying(row, place, start, below))
    return min(few, key=count_of), max(lots, key=count_of)


def beasts(many, ties, row, start=0, end=None):
    """The fewest and the most deaths in holding."""
    fewest, most = extremes(many, ties, row, start, end)
    return (fewest[0], most[0])


def beasts_ways(many, ties, row, start=0, end=None):
    """A way with the fewest deaths in holding, and one with the most."""
    fewest, most = extremes(many, ties, row, start, end)
    return (earliest_days(fewest[1]), earliest_days(most[1]))
