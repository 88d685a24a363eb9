import importlib
import inspect
import unittest

RUN = ["start", "end"]
FUNCTIONS = {
    "lifehold.spans": {"joined": ["spans"], "read_span": ["text"]},
    "lifehold.ways": {"way_fault": ["many", "ties", "days"]},
    "lifehold.tight": {
        "can_be": ["many", "ties"],
        "ring": ["many", "ties"],
        "least_set": ["many", "ties"],
        "bearing": ["many", "ties", "tie"],
        "gap": ["many", "ties", "one", "other"],
        "earliest": ["many", "ties"],
        "latest": ["many", "ties"],
    },
    "lifehold.rows": {
        "holder": ["row", "days", "day"],
        "turns": ["row", "days"] + RUN,
        "in_holding": ["row", "days"] + RUN,
    },
    "lifehold.may": {
        "may_hold": ["many", "ties", "row", "day"],
        "surely": ["many", "ties", "row", "day"],
        "shown": ["many", "ties", "row", "day", "life"],
        "enders": ["many", "ties", "row", "day"],
    },
    "lifehold.reach": {
        "days_of": ["many", "ties", "row", "life"] + RUN,
        "sure_days": ["many", "ties", "row", "life"] + RUN,
        "fewest_days": ["many", "ties", "row", "life"] + RUN,
        "most_days": ["many", "ties", "row", "life"] + RUN,
        "fewest_way": ["many", "ties", "row", "life"] + RUN,
        "most_way": ["many", "ties", "row", "life"] + RUN,
    },
    "lifehold.beasts": {
        "beasts": ["many", "ties", "row"] + RUN,
        "beasts_ways": ["many", "ties", "row"] + RUN,
    },
}
METHODS = {
    "__init__": ["self", "first", "until"],
    "__eq__": ["self", "other"],
    "__len__": ["self"],
    "__str__": ["self"],
    "__repr__": ["self"],
    "has": ["self", "day"],
    "common": ["self", "other"],
    "moved": ["self", "by"],
}


def names_of(function):
    return list(inspect.signature(function).parameters)


class TestInterface(unittest.TestCase):
    def test_functions(self):
        for module, functions in FUNCTIONS.items():
            for name, arguments in functions.items():
                with self.subTest(module=module, name=name):
                    function = getattr(importlib.import_module(module), name)
                    self.assertEqual(function.__module__, module)
                    self.assertEqual(names_of(function), arguments)
                    if arguments[-2:] == RUN:
                        self.assertEqual(function.__defaults__, (0, None))
                    else:
                        self.assertIsNone(function.__defaults__)

    def test_span_has_its_methods_itself(self):
        span = importlib.import_module("lifehold.spans").Span
        self.assertEqual(span.__module__, "lifehold.spans")
        for name, arguments in METHODS.items():
            with self.subTest(name=name):
                self.assertEqual(names_of(vars(span)[name]), arguments)

    def test_errors_with_fields(self):
        errors = importlib.import_module("lifehold.errors")
        self.assertEqual(names_of(errors.Against), ["numbers"])
        self.assertEqual(names_of(errors.BadText), ["at"])


if __name__ == "__main__":
    unittest.main()
