"""What the tests hold the program against: plain going through, that uses nothing of the program."""

import itertools
import random

LAST = 9999


def day_of(way, one):
    return 0 if one == -1 else way[one]


def keeps(way, ties):
    return all(day_of(way, one) - day_of(way, other) >= least for one, other, least in ties)


def window_ties(windows):
    """Ties that leave each life the days from low to high; those that the bounds say are left out."""
    told = []
    for life, (low, high) in enumerate(windows):
        if low > 0:
            told.append((life, -1, low))
        if high < LAST:
            told.append((-1, life, -high))
    return told


def all_ways(windows, ties):
    """All ways within the windows that keep the ties."""
    days = [range(low, high + 1) for low, high in windows]
    return [list(way) for way in itertools.product(*days) if keeps(way, ties)]


def raised_days(many, ties):
    """The least days that keep the ties, by raising them from 0 as long as need be; None if none do."""
    way = [0] * many
    rose = True
    while rose:
        rose = False
        for one, other, least in ties:
            if day_of(way, one) - day_of(way, other) < least:
                if one == -1 or day_of(way, other) + least > LAST:
                    return None
                way[one] = day_of(way, other) + least
                rose = True
    return way


def lowered_days(many, ties):
    """The greatest days that keep the ties, by lowering them from 9999; None if none do."""
    way = [LAST] * many
    fell = True
    while fell:
        fell = False
        for one, other, least in ties:
            if day_of(way, one) - day_of(way, other) < least:
                if other == -1 or day_of(way, one) - least < 0:
                    return None
                way[other] = day_of(way, one) - least
                fell = True
    return way


def ring_wrong(many, ties, ring):
    """What is wrong with a ring by [5], None where nothing is."""
    bounds = [(life, -1, 0) for life in range(many)] + [(-1, life, -LAST) for life in range(many)]
    if not isinstance(ring, list) or not ring:
        return "no list, or an empty one"
    if any(tie not in ties and tie not in bounds for tie in ring):
        return "a tie that is neither handed in nor a bound"
    for before, tie in zip([ring[-1]] + ring[:-1], ring):
        if tie[1] != before[0]:
            return "it is broken"
    ones = [tie[0] for tie in ring]
    if len(set(ones)) != len(ones):
        return "one twice"
    if sum(tie[2] for tie in ring) <= 0:
        return "its leasts come to 0 or less"
    return None


def least_set_wrong(many, ties, places):
    """What is wrong with a least set by [5], None where nothing is."""
    if not isinstance(places, list) or places != sorted(set(places)):
        return "no rising list"
    if any(not 0 <= place < len(ties) for place in places):
        return "a place that is none"
    if raised_days(many, [ties[place] for place in places]) is not None:
        return "these can be"
    for left in places:
        if raised_days(many, [ties[place] for place in places if place != left]) is None:
            return f"without {left} they still can't be"
    return None


def small_sets(seed, count, most=4):
    """Some (many, windows, ties): few lives with narrow windows, and a few ties between them."""
    chance = random.Random(seed)
    for _ in range(count):
        many = chance.randint(1, most)
        base = chance.choice([0, 0, 4000, LAST - 8])
        windows = []
        for _ in range(many):
            low = base + chance.randint(0, 4)
            windows.append((low, low + chance.randint(0, 4)))
        if base == LAST - 8:
            windows = [(low, LAST if chance.random() < 0.3 else high) for low, high in windows]
        ties = window_ties(windows)
        if many > 1:
            for _ in range(chance.randint(0, 4)):
                one, other = chance.sample(range(many), 2)
                ties.append((one, other, chance.randint(-4, 3)))
        if ties and chance.random() < 0.3:
            ties.append(chance.choice(ties))
        chance.shuffle(ties)
        yield many, windows, ties


def stiff_sets(seed, count):
    """Some more of three or four lives that can be: windows about a way, and pairs whose gap it settles at times."""
    chance = random.Random(seed)
    for _ in range(count):
        many = chance.randint(3, 4)
        base = chance.choice([0, 4000, LAST - 8])
        way = [base + chance.randint(0, 8) for _ in range(many)]
        windows = [(max(0, day - chance.randint(0, 3)), min(LAST, day + chance.randint(0, 3))) for day in way]
        ties = window_ties(windows)
        for _ in range(chance.randint(1, 3)):
            one, other = chance.sample(range(many), 2)
            least = way[one] - way[other]
            ties += [(one, other, least), (other, one, -least - chance.choice([0, 0, 0, 1]))]
        chance.shuffle(ties)
        yield many, windows, ties


def sets_with_ways(sets):
    """Those of the sets that can be, with all their ways."""
    for many, windows, ties in sets:
        ways = all_ways(windows, ties)
        if ways:
            yield many, windows, ties, ways


def ties_of_a_way(chance, many, count):
    """A way, and so many ties that it keeps, many of them without a day to spare."""
    way = [chance.choice([0, LAST, chance.randint(0, LAST)]) for _ in range(many)]
    ties = []
    for _ in range(count):
        one, other = chance.sample(range(-1, many), 2)
        spare = chance.choice([0, 0, 1, chance.randint(0, 3000)])
        least = day_of(way, one) - day_of(way, other) - spare
        ties.append((one, other, max(-LAST, least)))
    return way, ties


def holder_of(row, way, day):
    """[8], to the letter."""
    for life in row:
        if day < way[life]:
            return life
    return -1


def holding_ties(row, day, one):
    """Ties that only those ways keep in which this one, or -1, is the holder on the day."""
    told = []
    for life in row:
        if life == one:
            return told + [(life, -1, day + 1)]
        told.append((-1, life, -day))
    return told


def run_of(start, end):
    """The days of a run."""
    return range(start, LAST + 1 if end is None else end)


def dying_in_holding(row, way, start, end):
    """[9], to the letter, in the order of the deaths."""
    run = run_of(start, end)
    dying = [life for life in row if way[life] - 1 in run and holder_of(row, way, way[life] - 1) == life]
    return sorted(dying, key=lambda life: way[life])


class Reps:
    """Days that stand for all others: ahead of all windows, and behind them, all days are alike."""

    def __init__(self, windows):
        self.low = max(0, min(low for low, high in windows) - 1)
        self.high = min(LAST, max(high for low, high in windows))
        self.days = range(self.low, self.high + 1)

    def of_run(self, day, start, end):
        """The days of the run for which this one stands."""
        run = run_of(start, end)
        first = 0 if day == self.low else day
        last = LAST if day == self.high else day
        return range(max(first, run.start), min(last + 1, run.stop))


def some_rows(chance, many, count):
    """Some rows of so many lives."""
    return [chance.sample(range(many), chance.randint(1, min(4, many))) for _ in range(count)]


def some_runs(chance, windows, count):
    """Some (start, end) about the windows."""
    low = min(low for low, high in windows)
    high = max(high for low, high in windows)
    told = []
    while len(told) < count:
        start = chance.choice([0, chance.randint(low - 1, high + 1), chance.randint(low - 1, high + 1)])
        end = chance.choice([None, LAST + 1, start + 1, chance.randint(low, high + 2), chance.randint(low, high + 2)])
        if 0 <= start <= LAST and (end is None or start < end <= LAST + 1):
            told.append((start, end))
    return told


def ask_run(chance, ask, things, start, end):
    """What is told of a run, asked by place or by name, with what may be left out left out at times."""
    forms = [(things + [start, end], {}), (things, {"start": start, "end": end}), (things + [start], {"end": end})]
    if end is None:
        forms += [(things + [start], {}), (things, {"start": start})]
    if start == 0:
        forms += [(things, {"end": end})]
    if start == 0 and end is None:
        forms += [(things, {})]
    by_place, by_name = chance.choice(forms)
    return ask(*by_place, **by_name)


def random_way(chance, many, ties):
    """Some way that keeps the ties: one life's day after the other is settled by chance."""
    ties = list(ties)
    for life in chance.sample(range(many), many):
        low, high = raised_days(many, ties)[life], lowered_days(many, ties)[life]
        day = chance.choice([low, high, chance.randint(low, high)])
        ties += [(life, -1, day), (-1, life, -day)]
    return raised_days(many, ties)
