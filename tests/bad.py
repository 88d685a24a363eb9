"""Things that are refused, and how a test sees to it."""

import unittest

FAR = 10 ** 30 - 1

# Of two lives.
BAD_ROWS = [[], [0, 0], [0, 1, 0], [2], [-1], [0, -1], [0, 2], [FAR], [-FAR], [0, 1, 2, 3, 4], [0] * 100]
BAD_DAYS = [-1, 10000, 10001, FAR, -FAR]
BAD_RUNS = [
    (-1, None), (10000, None), (FAR, None), (-FAR, None), (0, 0), (5, 5), (5, 4), (0, 10001), (0, FAR), (0, -FAR),
    (9999, 9999), (-1, 5), (10000, 10001), (-2, -1), (FAR, FAR + 1),
]
GOOD_RUNS = [(0, 1), (9999, None), (9999, 10000), (0, 10000), (0, None), (9998, 9999)]


class RefusalCase(unittest.TestCase):
    def refused(self, kind, ask, *things, **named):
        with self.subTest(things=things, named=named):
            with self.assertRaises(kind) as caught:
                ask(*things, **named)
            self.assertIs(caught.exception.__class__, kind)
