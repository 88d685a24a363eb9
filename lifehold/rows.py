"""Rows of lives, and who holds when in one way."""

from lifehold.errors import BadDay, BadRow
from lifehold.spans import LAST_DAY, Span, is_day
from lifehold.ties import check_count

# Who holds where the row has fallen in.
NOBODY = -1
MOST_IN_ROW = 4


def check_day(day):
    if not is_day(day):
        raise BadDay("a day is a number from 0 to 9999")


def check_unlike(row):
    """Refuse BadRow of lives, by numbers or by names, that are too many, none, or not unlike."""
    if not 1 <= len(row) <= MOST_IN_ROW or len(set(row)) != len(row):
        raise BadRow("a row has 1 to 4 unlike lives")


def check_row(many, row):
    check_unlike(row)
    for life in row:
        if not 0 <= life < many:
            raise BadRow("a row has none but lives")


def check_run(start, end):
    """The number below which the run ends; BadDay where start and end are none of a run."""
    check_day(start)
    if end is None:
        return LAST_DAY + 1
    if not start < end <= LAST_DAY + 1:
        raise BadDay("a run ends behind its start, at 10000 at the most")
    return end


def check_way(days):
    """Refuse BadCount, then BadDay, of days of death."""
    check_count(len(days))
    for day in days:
        check_day(day)


def holder(row, days, day):
    """The first of the row that is there on the day, -1 where none is."""
    check_way(days)
    check_row(len(days), row)
    check_day(day)
    for life in row:
        if day < days[life]:
            return life
    return NOBODY


def turns(row, days, start=0, end=None):
    """Pairs of a life and the Span of days of the run on which it holds, in the order of days."""
    check_way(days)
    check_row(len(days), row)
    below = check_run(start, end)
    told = []
    first = start
    for life in row:
        until = min(days[life], below)
        if first < until:
            told.append((life, Span(first, until)))
            first = until
    return told


def in_holding(row, days, start=0, end=None):
    """The lives that die in holding, in the order of their deaths."""
    # A turn that ends ahead of its life's death ends with the run, and the death is none of the run's.
    return [life for life, span in turns(row, days, start, end) if span.until == days[life]]
