"""Ties between days of death: which are good, which are kept, and what gaps they leave."""

from lifehold.errors import BadCount, BadTie, CantBe
from lifehold.spans import LAST_DAY

BEGINNING = -1
MOST_LIVES = 10
MOST_TIES = 80


def is_one(many, one):
    """Whether this is one of so many lives, or the beginning."""
    return BEGINNING <= one < many


def is_tie(many, tie):
    if len(tie) != 3:
        return False
    one, other, least = tie
    if one == other or not is_one(many, one) or not is_one(many, other):
        return False
    return -LAST_DAY <= least <= LAST_DAY


def check_tie(many, tie):
    if not is_tie(many, tie):
        raise BadTie("a tie is of two unlike ones, with a least from -9999 to 9999")


def check_count(many):
    if not 1 <= many <= MOST_LIVES:
        raise BadCount("there are 1 to 10 lives")


def check_ties(many, ties):
    """Refuse BadCount, then BadTie."""
    check_count(many)
    if len(ties) > MOST_TIES:
        raise BadTie("there are at most 80 ties")
    for tie in ties:
        check_tie(many, tie)


def bounds(many):
    """The ties that keep each day of death from 0 to 9999."""
    told = []
    for life in range(many):
        told.append((life, BEGINNING, 0))
        told.append((BEGINNING, life, -LAST_DAY))
    return told


def day_of(days, one):
    if one == BEGINNING:
        return 0
    return days[one]


def is_kept(tie, days):
    one, other, least = tie
    return day_of(days, one) - day_of(days, other) >= least


def bare_gaps(many):
    """The gaps where there are the bounds alone, a row for each one, in it a place for each other.

    The beginning stands last in both, so that -1 finds it.
    """
    rows = [[-LAST_DAY] * many + [0] for one in range(many + 1)]
    for one in range(many):
        rows[one][one] = 0
    return rows


def gaps_by_way_of(rows, middle):
    """The gaps, raised where they come to more from the one to the middle and on to the other."""
    onward = rows[middle]
    return [[max(row[k], row[middle] + onward[k]) for k in range(len(row))] for row in rows]


def all_gaps(many, ties):
    """The gaps of all, placed as bare_gaps places them; of use for can_stand alone where ties can't be."""
    rows = bare_gaps(many)
    for one, other, least in ties:
        rows[one][other] = max(rows[one][other], least)
    for middle in range(many + 1):
        rows = gaps_by_way_of(rows, middle)
    return rows


def can_stand(rows):
    """Whether ties that come to these gaps can be: none is to be later than itself."""
    return all([rows[one][one] == 0 for one in range(len(rows))])


def true_gaps(many, ties):
    """The gaps of all, placed as bare_gaps places them; CantBe."""
    rows = all_gaps(many, ties)
    if not can_stand(rows):
        raise CantBe("no way keeps these ties")
    return rows


def checked_gaps(many, ties):
    """The gaps of all, of ties that are looked at first: BadCount, BadTie, CantBe."""
    check_ties(many, ties)
    return true_gaps(many, ties)


def gaps_with(rows, ties):
    """The gaps, with some ties more than those that come to these ones; None where they can't be.

    These ties may also be of one with itself, and have any leasts.
    """
    for one, other, least in ties:
        if rows[other][one] + least > 0:
            return None
        onward = [least + further for further in rows[other]]
        # A tie more is of use once at most, between a gap to its one and a gap from its other on.
        rows = [[max(row[k], row[one] + onward[k]) for k in range(len(row))] for row in rows]
    return rows


def earliest_days(rows):
    return [row[BEGINNING] for row in rows[:BEGINNING]]


def latest_days(rows):
    return [-least for least in rows[BEGINNING][:BEGINNING]]
