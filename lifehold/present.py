"""Presentments: what is told of days of death, the ties that it comes to, and how it is written."""

from lifehold.errors import BadDay, BadRow, NoLife
from lifehold.spans import LAST_DAY, is_day
from lifehold.ties import BEGINNING
from lifehold.words import read_number

# Of each first text: the place of the first number, with lives alone ahead of it, and how many things there are.
THINGS = {"on": (2, 3), "between": (2, 4), "alive": (2, 3), "after": (3, 4), "within": (3, 4)}
# The numbers of these count days, and are none themselves.
COUNTING = ("after", "within")


def is_shaped(things):
    """Whether the first text is one of a presentment, and as many things stand behind it as belong there."""
    if len(things) == 0 or things[0] not in THINGS:
        return False
    place, count = THINGS[things[0]]
    return len(things) == count


def parted(things):
    """The first text, the lives and the rest, of things that are shaped well."""
    place, count = THINGS[things[0]]
    return things[0], list(things[1:place]), list(things[place:])


def check_days(word, days):
    for day in days:
        if not is_day(day):
            raise BadDay("a number that isn't from 0 to 9999")
    if days[0] > days[-1]:
        raise BadDay("a last day ahead of the first one")
    if word == "alive" and days[0] == LAST_DAY:
        raise BadDay("no life is there on the last day")


def ties_of(row, names):
    """The ties of a presentment, by the places of its lives among the names."""
    if not is_shaped(row):
        raise BadRow("another first text, or another count of things")
    word, lives, days = parted(row)
    if len(set(lives)) != len(lives):
        raise BadRow("a life twice")
    for life in lives:
        if life not in names:
            raise NoLife("there is no such life")
    check_days(word, days)
    one, other = names.index(lives[0]), names.index(lives[-1])
    if word == "after":
        return [(one, other, days[0])]
    if word == "within":
        return [(other, one, -days[0])]
    if word == "alive":
        return [(one, BEGINNING, days[0] + 1)]
    # "on" has a single day, which is its first and its last.
    return [(one, BEGINNING, days[0]), (BEGINNING, one, -days[-1])]


def said(row):
    """The things of a good presentment as a text, as on a page."""
    word, lives, days = parted(row)
    if word in COUNTING:
        figures = [str(day) for day in days]
    else:
        figures = [f"{day:04d}" for day in days]
    return " ".join([word] + lives + figures)


def read_presentment(words):
    """The presentment whose things are these words; None where they are not so many, or one is no number."""
    if not is_shaped(words):
        return None
    word, lives, rest = parted(words)
    numbers = [read_number(each) for each in rest]
    if None in numbers:
        return None
    return tuple([word] + lives + numbers)
