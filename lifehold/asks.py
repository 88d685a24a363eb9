"""What is asked about a manor, answered by names."""

from lifehold.beasts import beasts
from lifehold.errors import Idle, NoLife
from lifehold.may import enders, may_hold, shown, surely
from lifehold.present import ties_of
from lifehold.reach import days_of, fewest_days, most_days, sure_days
from lifehold.rows import NOBODY, check_day, check_run
from lifehold.spans import Span
from lifehold.standing import all_ties, check_lives, numbers_against, places, tenure_of
from lifehold.tight import bearing, can_be, earliest, latest

# What stands for a life where the row has fallen in.
NO_NAME = ""


def matter(standing):
    """How many lives there are, and all ties."""
    return len(standing.names), all_ties(standing)


def row_on(standing, holding, day):
    """The row of a holding by lives' numbers; NoHolding, and BadDay and Idle of the day."""
    row, start, end = tenure_of(standing, holding)
    check_day(day)
    if not start <= day < check_run(start, end):
        raise Idle("the day is none of the holding's run")
    return places(standing, row)


def place_in(standing, row, life):
    """The number of a life of the row, which is of numbers; NoLife."""
    if life not in standing.names or standing.names.index(life) not in row:
        raise NoLife("the life is not in the row")
    return standing.names.index(life)


def name_of(standing, life):
    if life == NOBODY:
        return NO_NAME
    return standing.names[life]


def who_may(standing, holding, day):
    row = row_on(standing, holding, day)
    many, ties = matter(standing)
    return [name_of(standing, life) for life in may_hold(many, ties, row, day)]


def who_surely(standing, holding, day):
    row = row_on(standing, holding, day)
    many, ties = matter(standing)
    life = surely(many, ties, row, day)
    if life is None:
        return None
    return name_of(standing, life)


def way_shown(standing, holding, day, life):
    """Pairs of each life and its day of death, in a way in which the life, or "", holds on the day; None."""
    row = row_on(standing, holding, day)
    one = NOBODY if life == NO_NAME else place_in(standing, row, life)
    many, ties = matter(standing)
    way = shown(many, ties, row, day, one)
    if way is None:
        return None
    return list(zip(standing.names, way))


def who_ends(standing, holding, day):
    row = row_on(standing, holding, day)
    many, ties = matter(standing)
    return [name_of(standing, life) for life in enders(many, ties, row, day)]


def row_with(standing, holding, life):
    """The row and the life by numbers, the start and the end; NoHolding, NoLife."""
    row, start, end = tenure_of(standing, holding)
    lives = places(standing, row)
    return lives, place_in(standing, lives, life), start, end


def span_maybe(standing, holding, life):
    row, one, start, end = row_with(standing, holding, life)
    many, ties = matter(standing)
    return days_of(many, ties, row, one, start, end)


def span_surely(standing, holding, life):
    row, one, start, end = row_with(standing, holding, life)
    many, ties = matter(standing)
    return sure_days(many, ties, row, one, start, end)


def counts_held(standing, holding, life):
    row, one, start, end = row_with(standing, holding, life)
    many, ties = matter(standing)
    fewest = fewest_days(many, ties, row, one, start, end)
    return (fewest, most_days(many, ties, row, one, start, end))


def counts_dying(standing, holding):
    row, start, end = tenure_of(standing, holding)
    many, ties = matter(standing)
    return beasts(many, ties, places(standing, row), start, end)


def span_of_death(standing, life):
    check_lives(standing, [life])
    many, ties = matter(standing)
    place = standing.names.index(life)
    return Span(earliest(many, ties)[place], latest(many, ties)[place] + 1)


def bearing_of(standing, row):
    """Whether a presentment more is known, against those that stand, or news."""
    more = ties_of(row, standing.names)
    many, ties = matter(standing)
    if not can_be(many, ties + more):
        return "against"
    if all([bearing(many, ties, tie) == "known" for tie in more]):
        return "known"
    return "news"


def why_not(standing, row):
    """The numbers that Against would have, none where the presentment isn't against those that stand."""
    ties = ties_of(row, standing.names)
    return numbers_against(standing, sorted(standing.sayings), ties)
