"""The deeds: each one comes to what stands behind it, or is refused."""

from lifehold.errors import (
    Against, BadDay, BadName, Full, GivenUp, Held, NoPlace, NoPresentment, Taken, Twice,
)
from lifehold.present import ties_of
from lifehold.reach import sure_days
from lifehold.rows import MOST_IN_ROW, check_run, check_unlike
from lifehold.spans import is_day
from lifehold.standing import Standing, all_ties, check_lives, numbers_against, places, tenure_of
from lifehold.ties import MOST_LIVES

MOST_HOLDINGS = 8
MOST_SAYINGS = 30
MOST_LETTERS = 8
LETTERS = "abcdefghijklmnopqrstuvwxyz"


def check_name(name, taken):
    """Refuse BadName, then Taken."""
    if not 1 <= len(name) <= MOST_LETTERS or not all([sign in LETTERS for sign in name]):
        raise BadName("a name has 1 to 8 letters a to z")
    if name in taken:
        raise Taken("another one bears this name")


def behind_life(standing, name):
    check_name(name, standing.names)
    if len(standing.names) >= MOST_LIVES:
        raise Full("there are ten lives")
    return Standing(standing.names + (name,), standing.tenures, standing.sayings, standing.following)


def with_tenure(standing, name, row, start, end):
    """What stands, but for this holding, which is a new one or another one now."""
    tenures = {**standing.tenures, name: (row, start, end)}
    return Standing(standing.names, tenures, standing.sayings, standing.following)


def behind_holding(standing, name, row, start, end):
    """As behind_let, for a holding that may have an end from the first."""
    check_name(name, standing.tenures)
    check_unlike(row)
    check_lives(standing, row)
    check_run(start, end)
    if len(standing.tenures) >= MOST_HOLDINGS:
        raise Full("there are eight holdings")
    return with_tenure(standing, name, tuple(row), start, end)


def behind_let(standing, name, row, day):
    return behind_holding(standing, name, row, day, None)


def check_newcomer(standing, row, end, life):
    """Refuse NoLife, GivenUp, Twice, of a life that is to come into the row."""
    check_lives(standing, [life])
    if end is not None:
        raise GivenUp("the holding has an end")
    if life in row:
        raise Twice("the life is in the row")


def behind_put_in(standing, holding, life):
    row, start, end = tenure_of(standing, holding)
    check_newcomer(standing, row, end, life)
    if len(row) >= MOST_IN_ROW:
        raise Full("the row has four")
    return with_tenure(standing, holding, row + (life,), start, end)


def behind_change(standing, holding, at, life):
    row, start, end = tenure_of(standing, holding)
    if not 0 <= at < len(row):
        raise NoPlace("there is no such place in the row")
    check_newcomer(standing, row, end, life)
    lives = places(standing, row)
    if sure_days(len(standing.names), all_ties(standing), lives, lives[at], start, end) is not None:
        raise Held("the life there holds for certain")
    return with_tenure(standing, holding, row[:at] + (life,) + row[at + 1:], start, end)


def behind_give_up(standing, holding, day):
    row, start, end = tenure_of(standing, holding)
    if not is_day(day) or day <= start:
        raise BadDay("an end is a day behind the start")
    if end is not None:
        raise GivenUp("the holding has an end")
    return with_tenure(standing, holding, row, start, day)


def with_saying(standing, number, row, following):
    """What stands, but for the presentment of this number, which is a new one or another one now."""
    ties = ties_of(row, standing.names)
    others = [each for each in sorted(standing.sayings) if each != number]
    # One that is put right stands among thirty at the most, and so has room always.
    if len(others) >= MOST_SAYINGS:
        raise Full("thirty presentments stand")
    numbers = numbers_against(standing, others, ties)
    if numbers:
        raise Against(numbers)
    return Standing(standing.names, standing.tenures, {**standing.sayings, number: tuple(row)}, following)


def behind_present(standing, row):
    return with_saying(standing, standing.following, row, standing.following + 1)


def check_number(standing, number):
    if number not in standing.sayings:
        raise NoPresentment("there is no such presentment")


def behind_right(standing, number, row):
    check_number(standing, number)
    return with_saying(standing, number, row, standing.following)


def behind_strike(standing, number):
    check_number(standing, number)
    left = {each: standing.sayings[each] for each in standing.sayings if each != number}
    return Standing(standing.names, standing.tenures, left, standing.following)


BEHIND = {
    "life": behind_life, "let": behind_let, "put_in": behind_put_in, "change": behind_change,
    "give_up": behind_give_up, "present": behind_present, "right": behind_right, "strike": behind_strike,
}


def behind_deed(standing, deed):
    """What stands behind a deed: a tuple of its name and what is handed in."""
    name, *things = deed
    action = BEHIND[name]
    return action(standing, *things)


def as_told(deed):
    """The deed with its row, if it has one, as a tuple."""
    return tuple([tuple(thing) if isinstance(thing, (list, tuple)) else thing for thing in deed])
