"""What ties come to together: whether they can be, why not, and what they leave open."""

from lifehold.errors import NoLife
from lifehold.ties import (
    BEGINNING, all_gaps, bounds, can_stand, check_tie, check_ties, checked_gaps, earliest_days, is_one, latest_days,
    true_gaps,
)


def can_be(many, ties):
    check_ties(many, ties)
    return can_stand(all_gaps(many, ties))


def ring(many, ties):
    """A ring of ties and bounds, or None where the ties can be."""
    if can_be(many, ties):
        return None
    every = list(ties) + bounds(many)
    return [every[place] for place in ring_places(many, every)]


def least_set(many, ties):
    """The places of ties that can't be, but can where any one is left out; None where all can be."""
    if can_be(many, ties):
        return None
    every = list(ties) + bounds(many)
    # A ring isn't always a least set: a part of it may be against the bounds alone.
    places = sorted([place for place in ring_places(many, every) if place < len(ties)])
    kept = places
    for place in places:
        fewer = [k for k in kept if k != place]
        if not can_be(many, [ties[k] for k in fewer]):
            kept = fewer
    return kept


def ring_places(many, every):
    """The places of a ring, of ties that can't be and stand there with their bounds."""
    # As the beginning stands last in both lists, -1 finds it.
    days = [0] * (many + 1)
    cause = [None] * (many + 1)
    raised = BEGINNING
    # Behind as many rounds as there are ones, a day that still rises does so by way of a ring.
    for turn in range(many + 1):
        for place, (one, other, least) in enumerate(every):
            if days[one] < days[other] + least:
                days[one] = days[other] + least
                cause[one] = place
                raised = one
    return places_back(every, cause, raised)


def places_back(every, cause, one):
    """The places of the ring that is met on the way back from the one, each time to its cause."""
    passed = []
    while one not in passed:
        passed.append(one)
        one = every[cause[one]][1]
    around = passed[passed.index(one):]
    return [cause[each] for each in reversed(around)]


def gap(many, ties, one, other):
    """The least number by which the one's day is greater than the other's."""
    rows = checked_gaps(many, ties)
    if not is_one(many, one) or not is_one(many, other):
        raise NoLife("neither a life nor the beginning")
    return rows[one][other]


def earliest(many, ties):
    return earliest_days(checked_gaps(many, ties))


def latest(many, ties):
    return latest_days(checked_gaps(many, ties))


def bearing(many, ties, tie):
    """Whether a tie more is known, against the ties, or news."""
    check_ties(many, ties)
    check_tie(many, tie)
    rows = true_gaps(many, ties)
    one, other, least = tie
    if rows[one][other] >= least:
        return "known"
    if rows[other][one] > -least:
        return "against"
    return "news"
