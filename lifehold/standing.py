"""What stands in a manor at one time."""

from lifehold.errors import NoHolding, NoLife
from lifehold.present import ties_of
from lifehold.tight import can_be


class Standing:
    """Lives, holdings, presentments, and the number that comes next.

    None is ever changed: each deed comes to a new one, so that the one ahead of it can be kept, to be taken back to.
    """

    def __init__(self, names, tenures, sayings, following):
        # The names of the lives, in their order.
        self.names = names
        # For each holding's name (row, start, end), the row being of names.
        self.tenures = tenures
        # For each number its presentment.
        self.sayings = sayings
        self.following = following

    def __eq__(self, other):
        return (
            isinstance(other, Standing) and self.names == other.names and self.tenures == other.tenures
            and self.sayings == other.sayings and self.following == other.following
        )


def check_lives(standing, lives):
    for life in lives:
        if life not in standing.names:
            raise NoLife("there is no such life")


def tenure_of(standing, holding):
    """The row, the start and the end of a holding; NoHolding."""
    if holding not in standing.tenures:
        raise NoHolding("there is no such holding")
    return standing.tenures[holding]


def places(standing, lives):
    """The numbers of the lives with these names."""
    return [standing.names.index(life) for life in lives]


def ties_said(standing, numbers):
    """The ties of the presentments with these numbers."""
    told = []
    for number in numbers:
        told.extend(ties_of(standing.sayings[number], standing.names))
    return told


def all_ties(standing):
    """The ties of all that stands."""
    return ties_said(standing, sorted(standing.sayings))


def numbers_against(standing, others, ties):
    """Some of the others' numbers, such that these presentments can't be with the ties, nor any be left out of them.

    None are told where all the others can be with the ties.
    """
    many = len(standing.names)
    if can_be(many, ties_said(standing, others) + ties):
        return []
    kept = others
    for number in others:
        fewer = [each for each in kept if each != number]
        if not can_be(many, ties_said(standing, fewer) + ties):
            kept = fewer
    return kept
