"""Ways: a day of death for each life."""

from lifehold.spans import is_day
from lifehold.ties import check_ties, is_kept


def way_fault(many, ties, days):
    """None where days are a way that keeps the ties, else what is wrong first."""
    check_ties(many, ties)
    if len(days) != many:
        return ("many", len(days))
    for place, day in enumerate(days):
        if not is_day(day):
            return ("day", place)
    for place, tie in enumerate(ties):
        if not is_kept(tie, days):
            return ("tie", place)
    return None
