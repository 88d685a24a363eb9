"""Numbers as words."""

from lifehold.spans import are_figures

MOST_FIGURES = 6


def read_number(word):
    """The number that is written in one to six figures; None where none is."""
    if not 1 <= len(word) <= MOST_FIGURES or not are_figures(word):
        return None
    return int(word)
