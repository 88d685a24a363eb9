"""A desk that keeps a manor and answers lines."""

from lifehold.errors import (
    Against, BadDay, BadName, BadRow, Full, GivenUp, Held, Idle, NoHolding, NoLife, NoPlace, NoPresentment, Nothing,
    Taken, Twice,
)
from lifehold.manor import Manor
from lifehold.pages import page
from lifehold.present import read_presentment
from lifehold.words import read_number

# Of each first word the words of its line, itself among them: w is any word, n a number; and, as the last one only,
# r one word or more, s the things of a presentment.
SHAPES = {
    "life": "ww", "let": "wwnr", "put": "www", "change": "wwnw", "end": "wwn", "say": "ws", "right": "wns",
    "strike": "wn", "undo": "w", "redo": "w", "may": "wwn", "sure": "wwn", "days": "www", "held": "www",
    "beasts": "ww", "ends": "wwn", "dies": "ww", "page": "w",
}
FALLEN_IN = "-"


def read_thing(kind, words):
    """What the words are as a thing of this kind; None where they are none."""
    if kind == "s":
        return read_presentment(words)
    if kind == "r":
        return words
    if len(words) != 1:
        return None
    if kind == "n":
        return read_number(words[0])
    return words[0]


def read_line(line):
    """The things of a line, its first word first; None where it isn't made as one of the lines is."""
    words = line.split(" ")
    if "" in words or words[0] not in SHAPES:
        return None
    shape = SHAPES[words[0]]
    if len(words) < len(shape):
        return None
    # Words that are too many come with the last one.
    last = len(shape) - 1
    groups = [[word] for word in words[:last]] + [words[last:]]
    things = [read_thing(kind, group) for kind, group in zip(shape, groups)]
    if None in things:
        return None
    return things


def deed_done(manor, *deed):
    """Do a deed, and answer with what it tells."""
    told = manor.do(deed)
    if told is None:
        return "done"
    return str(told)


def tell_life(manor, name):
    return deed_done(manor, "life", name)


def tell_let(manor, name, day, lives):
    return deed_done(manor, "let", name, lives, day)


def tell_put(manor, name, life):
    return deed_done(manor, "put_in", name, life)


def tell_change(manor, name, at, life):
    return deed_done(manor, "change", name, at, life)


def tell_end(manor, name, day):
    return deed_done(manor, "give_up", name, day)


def tell_say(manor, row):
    return deed_done(manor, "present", row)


def tell_right(manor, number, row):
    return deed_done(manor, "right", number, row)


def tell_strike(manor, number):
    return deed_done(manor, "strike", number)


def tell_undo(manor):
    manor.undo()
    return "done"


def tell_redo(manor):
    manor.redo()
    return "done"


def holder_word(name):
    if name == "":
        return FALLEN_IN
    return name


def tell_may(manor, name, day):
    return " ".join([holder_word(each) for each in manor.may(name, day)])


def tell_sure(manor, name, day):
    told = manor.sure(name, day)
    if told is None:
        return "doubt"
    return holder_word(told)


def tell_days(manor, name, life):
    span = manor.days(name, life)
    if span is None:
        return "none"
    return str(span)


def pair_words(pair):
    fewest, most = pair
    return f"{fewest} {most}"


def tell_held(manor, name, life):
    return pair_words(manor.held(name, life))


def tell_beasts(manor, name):
    return pair_words(manor.beasts(name))


def tell_ends(manor, name, day):
    told = manor.enders(name, day)
    if not told:
        return "none"
    return " ".join(told)


def tell_dies(manor, life):
    return str(manor.dies(life))


def tell_page(manor):
    return page(manor)


TELLING = {
    "life": tell_life, "let": tell_let, "put": tell_put, "change": tell_change, "end": tell_end, "say": tell_say,
    "right": tell_right, "strike": tell_strike, "undo": tell_undo, "redo": tell_redo, "may": tell_may,
    "sure": tell_sure, "days": tell_days, "held": tell_held, "beasts": tell_beasts, "ends": tell_ends,
    "dies": tell_dies, "page": tell_page,
}


def answer(manor, things):
    """The answer to the things of a line, or their refusal."""
    word, *rest = things
    action = TELLING[word]
    return action(manor, *rest)


def answer_or_no(manor, things):
    """The answer to the things of a line, or the class of their refusal."""
    try:
        return answer(manor, things)
    except BadName:
        return "no BadName"
    except Taken:
        return "no Taken"
    except Full:
        return "no Full"
    except BadRow:
        return "no BadRow"
    except NoLife:
        return "no NoLife"
    except BadDay:
        return "no BadDay"
    except NoHolding:
        return "no NoHolding"
    except GivenUp:
        return "no GivenUp"
    except Twice:
        return "no Twice"
    except NoPlace:
        return "no NoPlace"
    except Held:
        return "no Held"
    except Against:
        return "no Against"
    except NoPresentment:
        return "no NoPresentment"
    except Nothing:
        return "no Nothing"
    except Idle:
        return "no Idle"


class Desk:
    """Keeps a manor and answers lines."""

    def __init__(self):
        self.manor = Manor()

    def tell(self, line):
        """The answer to a line."""
        things = read_line(line)
        if things is None:
            return "what"
        return answer_or_no(self.manor, things)
