"""Pages: a manor as a text, and read from one."""

from lifehold.deeds import behind_holding, behind_life, with_saying
from lifehold.errors import BadText, HoldError, Missing
from lifehold.manor import Manor
from lifehold.present import read_presentment, said
from lifehold.standing import Standing
from lifehold.words import read_number

NO_END = "-"


def manor_row(number):
    return f"manor {number}"


def life_row(name):
    return f"life {name}"


def hold_row(name, start, end, row):
    last = NO_END if end is None else f"{end:04d}"
    return " ".join(["hold", name, f"{start:04d}", last] + row)


def say_row(number, row):
    return f"say {number} {said(row)}"


def page(manor):
    """The page of a manor."""
    rows = [manor_row(manor.coming())]
    rows.extend([life_row(name) for name in manor.lives()])
    for name in manor.holdings():
        start, end = manor.term(name)
        rows.append(hold_row(name, start, end, manor.row_of(name)))
    rows.extend([say_row(number, row) for number, row in manor.presentments()])
    return "\n".join(rows)


# Each of those that follow tells what stands behind a row of a page, None where the row isn't so made or stands in a
# wrong place, or refuses it. What is read from it is written again and has to be the row: so one figure too many,
# or one word, is seen.


def behind_first_row(row):
    number = read_number(row.split(" ")[-1])
    if number is None or number < 1 or manor_row(number) != row:
        return None
    return Standing((), {}, {}, number)


def behind_life_row(standing, row):
    name = row.split(" ")[-1]
    if standing.tenures or standing.sayings or life_row(name) != row:
        return None
    return behind_life(standing, name)


def read_hold(row):
    """The name, the start, the end and the lives of a row for a holding; None where it isn't so made."""
    words = row.split(" ")
    if len(words) < 5:
        return None
    name, start, lives = words[1], read_number(words[2]), words[4:]
    end = None if words[3] == NO_END else read_number(words[3])
    # An end that is no number is seen here, too: it would be written as if there were none.
    if start is None or hold_row(name, start, end, lives) != row:
        return None
    return name, start, end, lives


def behind_hold_row(standing, row):
    told = read_hold(row)
    if told is None:
        return None
    name, start, end, lives = told
    if standing.sayings or any([each >= name for each in standing.tenures]):
        return None
    return behind_holding(standing, name, lives, start, end)


def read_say(row):
    """The number and the presentment of a row for one; None where it isn't so made."""
    words = row.split(" ")
    if len(words) < 3:
        return None
    number, presentment = read_number(words[1]), read_presentment(words[2:])
    if number is None or presentment is None or say_row(number, presentment) != row:
        return None
    return number, presentment


def behind_say_row(standing, row):
    told = read_say(row)
    if told is None:
        return None
    number, presentment = told
    if not 1 <= number < standing.following or any([each >= number for each in standing.sayings]):
        return None
    return with_saying(standing, number, presentment, standing.following)


BEHIND_ROWS = {"life": behind_life_row, "hold": behind_hold_row, "say": behind_say_row}


def behind_row(standing, row):
    """What stands behind a row that isn't the first one; None where it is wrong there, for whatever reason."""
    word = row.split(" ")[0]
    if word not in BEHIND_ROWS:
        return None
    action = BEHIND_ROWS[word]
    try:
        return action(standing, row)
    except (HoldError, Missing):
        return None


def read(text):
    """The manor of which this is the page, with nothing to take back."""
    standing = None
    for at, row in enumerate(text.split("\n")):
        standing = behind_first_row(row) if at == 0 else behind_row(standing, row)
        if standing is None:
            raise BadText(at)
    manor = Manor()
    manor.standing = standing
    return manor
