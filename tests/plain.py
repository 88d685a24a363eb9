"""A manor gone through plainly, by points [15] to [17], that uses nothing of the program; and deeds by chance."""

import copy
import re

import brute

DAYS = range(0, 10000)
THINGS = {"on": (1, 1), "between": (1, 2), "alive": (1, 1), "after": (2, 1), "within": (2, 1)}


class Refused(Exception):
    """A refusal, by the name of its class."""

    def __init__(self, name):
        super().__init__(name)
        self.name = name


def due(*refusals):
    """Refuse with the first one that is due, of pairs (name, whether it is due or how to find out)."""
    for name, asked in refusals:
        if asked() if callable(asked) else asked:
            raise Refused(name)


def true_of(row, deaths):
    """Whether a presentment is true of the days of death, by names: [15], to the letter."""
    word = row[0]
    if word == "on":
        return deaths[row[1]] == row[2]
    if word == "between":
        return row[2] <= deaths[row[1]] <= row[3]
    if word == "alive":
        # It is there on all days ahead of its day of death.
        return row[2] < deaths[row[1]]
    one, other = deaths[row[1]], deaths[row[2]]
    if word == "after":
        return one >= other + row[3]
    return one <= other + row[3]


def bounds_of(row, lives):
    """A presentment as ties, written here once more."""
    word, one = row[0], lives.index(row[1])
    if word == "on":
        return [(one, -1, row[2]), (-1, one, -row[2])]
    if word == "between":
        return [(one, -1, row[2]), (-1, one, -row[3])]
    if word == "alive":
        return [(one, -1, row[2] + 1)]
    other = lives.index(row[2])
    if word == "after":
        return [(one, other, row[3])]
    return [(other, one, -row[3])]


def ties_of_all(rows, lives):
    return [tie for row in rows for tie in bounds_of(row, lives)]


def can_be(rows, lives):
    return brute.raised_days(len(lives), ties_of_all(rows, lives)) is not None


def row_refusals(row, lives):
    """BadRow, NoLife, BadDay of a presentment, in their order."""
    shaped = len(row) > 0 and row[0] in THINGS and len(row) == 1 + sum(THINGS[row[0]])
    due(("BadRow", not shaped))
    names = list(row[1:1 + THINGS[row[0]][0]])
    days = list(row[1 + THINGS[row[0]][0]:])
    due(
        ("BadRow", len(set(names)) < len(names)),
        ("NoLife", any(name not in lives for name in names)),
        ("BadDay", any(day not in DAYS for day in days)),
        ("BadDay", row[0] == "between" and days[1] < days[0]),
        ("BadDay", row[0] == "alive" and days[0] > 9998),
    )


def bad_name(name):
    return re.fullmatch("[a-z]{1,8}", name) is None


class Plain:
    def __init__(self):
        self.lives = []
        self.holdings = {}
        self.said = {}
        self.next = 1
        self.done = []
        self.undone = []

    def state(self):
        return copy.deepcopy((self.lives, self.holdings, self.said, self.next))

    def set_state(self, state):
        self.lives, self.holdings, self.said, self.next = copy.deepcopy(state)

    def do(self, deed):
        ahead = self.state()
        told = getattr(self, deed[0])(*deed[1:])
        self.done.append((deed, ahead))
        self.undone = []
        return told

    def undo(self):
        due(("Nothing", not self.done))
        deed, ahead = self.done.pop()
        self.undone.append((deed, self.state()))
        self.set_state(ahead)
        return deed

    def redo(self):
        due(("Nothing", not self.undone))
        deed, behind = self.undone.pop()
        self.done.append((deed, self.state()))
        self.set_state(behind)
        return deed

    def past(self):
        return [deed for deed, ahead in self.done]

    def life(self, name):
        due(("BadName", bad_name(name)), ("Taken", name in self.lives), ("Full", len(self.lives) == 10))
        self.lives.append(name)

    def let(self, name, row, day):
        due(
            ("BadName", bad_name(name)),
            ("Taken", name in self.holdings),
            ("BadRow", len(row) not in (1, 2, 3, 4) or len(set(row)) < len(row)),
            ("NoLife", any(life not in self.lives for life in row)),
            ("BadDay", day not in DAYS),
            ("Full", len(self.holdings) == 8),
        )
        self.holdings[name] = [list(row), day, None]

    def put_in(self, holding, life):
        due(("NoHolding", holding not in self.holdings), ("NoLife", life not in self.lives))
        row, start, end = self.holdings[holding]
        due(("GivenUp", end is not None), ("Twice", life in row), ("Full", len(row) == 4))
        row.append(life)

    def change(self, holding, at, life):
        due(("NoHolding", holding not in self.holdings))
        row, start, end = self.holdings[holding]
        due(
            ("NoPlace", at not in range(len(row))),
            ("NoLife", life not in self.lives),
            ("GivenUp", end is not None),
            ("Twice", life in row),
            ("Held", lambda: self.holds_for_certain(row, at, start)),
        )
        row[at] = life

    def holds_for_certain(self, row, at, start):
        """Whether the life there holds for certain on some day from the start on."""
        many, ties = len(self.lives), ties_of_all(self.said.values(), self.lives)
        places = [self.lives.index(life) for life in row]
        early, late = brute.raised_days(many, ties), brute.lowered_days(many, ties)
        # On these days all ahead of it are gone in all ways, and it is there in all.
        first = max([start] + [late[place] for place in places[:at]])
        return first < early[places[at]]

    def give_up(self, holding, day):
        due(("NoHolding", holding not in self.holdings))
        due(
            ("BadDay", day not in DAYS or day <= self.holdings[holding][1]),
            ("GivenUp", self.holdings[holding][2] is not None),
        )
        self.holdings[holding][2] = day

    def present(self, row):
        row_refusals(row, self.lives)
        due(("Full", len(self.said) == 30))
        due(("Against", not can_be([*self.said.values(), row], self.lives)))
        self.said[self.next] = tuple(row)
        self.next += 1
        return self.next - 1

    def others(self, number):
        return {each: row for each, row in self.said.items() if each != number}

    def right(self, number, row):
        due(("NoPresentment", number not in self.said))
        row_refusals(row, self.lives)
        due(("Against", not can_be([*self.others(number).values(), row], self.lives)))
        self.said[number] = tuple(row)

    def strike(self, number):
        due(("NoPresentment", number not in self.said))
        del self.said[number]


def against_wrong(numbers, others, row, lives):
    """What is wrong with the numbers of Against by [15], None where nothing is."""
    if not isinstance(numbers, list) or numbers != sorted(set(numbers)):
        return "no rising list"
    if any(number not in others for number in numbers):
        return "a number that is of none of the others"
    if can_be([others[number] for number in numbers] + [row], lives):
        return "these can be"
    for left in numbers:
        if not can_be([others[number] for number in numbers if number != left] + [row], lives):
            return f"without {left} they still can't be"
    return None


NAMES = ["ann", "bet", "cat", "dora", "eve", "fay", "gwen", "hob", "ida", "jo", "kit", "lou"]
PLOTS = ["mill", "croft", "ann", "garth", "ley", "acre", "bet", "mead", "toft", "wong"]
BAD_NAMES = ["", "Ann", "ninechars", "a b", "a1", "mill\n", "-", "a" * 400]
FAR = 10 ** 30 - 1


class Chance:
    """Deeds by chance, most of them good, about a narrow window of days."""

    def __init__(self, chance, base=100, width=12):
        self.chance = chance
        self.base = base
        self.width = width

    def one_of(self, good, others):
        good = list(good)
        if good and self.chance.random() < 0.93:
            return self.chance.choice(good)
        return self.chance.choice(others)

    def day(self):
        if self.chance.random() < 0.04:
            return self.chance.choice([-1, 10000, FAR, -FAR, 0, 9999, 9998])
        return self.base + self.chance.randint(0, self.width)

    def row(self, plain):
        """A presentment."""
        word = self.one_of(THINGS, ["", "upon", "ON"])
        lives, days = THINGS.get(word, (1, 1))
        names = [self.one_of(plain.lives, NAMES + BAD_NAMES) for _ in range(lives)]
        if lives == 2 and len(plain.lives) > 1 and self.chance.random() < 0.9:
            names = self.chance.sample(plain.lives, 2)
        if lives == 2:
            numbers = [self.one_of(range(6), [0, 9999, 10000, -1, FAR])]
        else:
            numbers = [self.day() for _ in range(days)]
            if days == 2 and self.chance.random() < 0.9:
                numbers = sorted(numbers)
        told = [word] + names + numbers
        if self.chance.random() < 0.03:
            told = told[:-1]
        elif self.chance.random() < 0.03:
            told.append(3)
        return tuple(told)

    def some_lives(self, plain):
        count = self.chance.choice([1, 2, 2, 3, 3, 4])
        if self.chance.random() < 0.08 or len(plain.lives) < count:
            return [self.one_of(plain.lives, NAMES + BAD_NAMES) for _ in range(self.chance.randint(0, 5))]
        return self.chance.sample(plain.lives, count)

    def number(self, plain):
        return self.one_of(plain.said, [0, -1, plain.next, 1, FAR, -FAR])

    def deed(self, plain, weights=(3, 3, 2, 3, 1, 9, 3, 3)):
        words = ["life", "let", "put_in", "change", "give_up", "present", "right", "strike"]
        word = self.chance.choices(words, weights)[0]
        if word == "life":
            return (word, self.one_of(NAMES, BAD_NAMES))
        if word == "let":
            return (word, self.one_of(PLOTS, BAD_NAMES), tuple(self.some_lives(plain)), self.day())
        if word == "present":
            return (word, self.row(plain))
        if word == "right":
            return (word, self.number(plain), self.row(plain))
        if word == "strike":
            return (word, self.number(plain))
        holding = self.one_of(plain.holdings, PLOTS + BAD_NAMES)
        if word == "give_up":
            return (word, holding, self.day())
        life = self.one_of(plain.lives, NAMES + BAD_NAMES)
        if word == "put_in":
            return (word, holding, life)
        return (word, holding, self.one_of(range(4), [-1, 4, 5, FAR, -FAR]), life)
