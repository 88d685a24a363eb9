"""Days, and spans of them."""

from lifehold.errors import BadDay, BadText

LAST_DAY = 9999
FIGURES = "0123456789"


def is_day(number):
    return 0 <= number <= LAST_DAY


class Span:
    """The days from first on, to below until."""

    def __init__(self, first, until):
        if not 0 <= first < until <= LAST_DAY + 1:
            raise BadDay("a span begins with a day, ahead of its until, which is 10000 at the most")
        self.first = first
        self.until = until

    def __eq__(self, other):
        return isinstance(other, Span) and self.first == other.first and self.until == other.until

    def __len__(self):
        return len(range(self.first, self.until))

    def __str__(self):
        return f"{self.first:04d}-{self.until - 1:04d}"

    def __repr__(self):
        return f"Span({self.first}, {self.until})"

    def has(self, day):
        return self.first <= day < self.until

    def common(self, other):
        """The Span of the days of both, or None."""
        first = max(self.first, other.first)
        until = min(self.until, other.until)
        if first >= until:
            return None
        return Span(first, until)

    def moved(self, by):
        """A Span so many days later."""
        return Span(self.first + by, self.until + by)


def joined(spans):
    """The fewest spans that have the same days, rising."""
    told = []
    for first, until in sorted([(span.first, span.until) for span in spans]):
        # Spans that only touch are one, too: with a span for each they would not be the fewest.
        if told and first <= told[-1].until:
            last = told.pop()
            told.append(Span(last.first, max(last.until, until)))
        else:
            told.append(Span(first, until))
    return told


def are_figures(text):
    # int alone would take signs, blanks and strokes between the figures, too.
    return all([sign in FIGURES for sign in text])


def read_day(text):
    if len(text) != 4 or not are_figures(text):
        raise BadText(0)
    return int(text)


def read_span(text):
    """The Span that is so written: first and last day, of four figures, with a stroke between."""
    first, stroke, last = text[:4], text[4:5], text[5:]
    if stroke != "-":
        raise BadText(0)
    begin, end = read_day(first), read_day(last)
    if end < begin:
        raise BadText(0)
    return Span(begin, end + 1)
