import importlib
import inspect
import unittest

RUN = ["start", "end"]
FUNCTIONS = {
    "lifehold.spans": {"joined": ["spans"], "read_span": ["text"]},
    "lifehold.ways": {"way_fault": ["many", "ties", "days"]},
    "lifehold.tight": {
        "can_be": ["many", "ties"],
        "ring": ["many", "ties"],
        "least_set": ["many", "ties"],
        "bearing": ["many", "ties", "tie"],
        "gap": ["many", "ties", "one", "other"],
        "earliest": ["many", "ties"],
        "latest": ["many", "ties"],
    },
    "lifehold.rows": {
        "holder": ["row", "days", "day"],
        "turns": ["row", "days"] + RUN,
        "in_holding": ["row", "days"] + RUN,
    },
    "lifehold.may": {
        "may_hold": ["many", "ties", "row", "day"],
        "surely": ["many", "ties", "row", "day"],
        "shown": ["many", "ties", "row", "day", "life"],
        "enders": ["many", "ties", "row", "day"],
    },
    "lifehold.reach": {
        "days_of": ["many", "ties", "row", "life"] + RUN,
        "sure_days": ["many", "ties", "row", "life"] + RUN,
        "fewest_days": ["many", "ties", "row", "life"] + RUN,
        "most_days": ["many", "ties", "row", "life"] + RUN,
        "fewest_way": ["many", "ties", "row", "life"] + RUN,
        "most_way": ["many", "ties", "row", "life"] + RUN,
    },
    "lifehold.beasts": {
        "beasts": ["many", "ties", "row"] + RUN,
        "beasts_ways": ["many", "ties", "row"] + RUN,
    },
    "lifehold.present": {"ties_of": ["row", "names"], "said": ["row"]},
    "lifehold.pages": {"page": ["manor"], "read": ["text"]},
}
# Of each class its methods, with what they are handed behind self.
METHODS = {
    ("lifehold.spans", "Span"): {
        "__init__": ["first", "until"], "__eq__": ["other"], "__len__": [], "__str__": [], "__repr__": [],
        "has": ["day"], "common": ["other"], "moved": ["by"],
    },
    ("lifehold.manor", "Manor"): {
        "__init__": [], "__eq__": ["other"], "__len__": [], "__repr__": [],
        "life": ["name"], "let": ["name", "row", "day"], "put_in": ["holding", "life"],
        "change": ["holding", "at", "life"], "give_up": ["holding", "day"], "present": ["row"],
        "right": ["number", "row"], "strike": ["number"], "undo": [], "redo": [], "do": ["deed"], "twin": [],
        "lives": [], "holdings": [], "row_of": ["holding"], "term": ["holding"], "presentments": [], "coming": [],
        "past": [], "may": ["holding", "day"], "sure": ["holding", "day"], "shown": ["holding", "day", "life"],
        "enders": ["holding", "day"], "days": ["holding", "life"], "certain": ["holding", "life"],
        "held": ["holding", "life"], "beasts": ["holding"], "dies": ["life"], "bearing": ["row"], "why": ["row"],
    },
    ("lifehold.desk", "Desk"): {"__init__": [], "tell": ["line"]},
}


def names_of(function):
    return list(inspect.signature(function).parameters)


class TestInterface(unittest.TestCase):
    def test_functions(self):
        for module, functions in FUNCTIONS.items():
            for name, arguments in functions.items():
                with self.subTest(module=module, name=name):
                    function = getattr(importlib.import_module(module), name)
                    self.assertEqual(function.__module__, module)
                    self.assertEqual(names_of(function), arguments)
                    if arguments[-2:] == RUN:
                        self.assertEqual(function.__defaults__, (0, None))
                    else:
                        self.assertIsNone(function.__defaults__)

    def test_classes_have_their_methods_themselves(self):
        for (module, title), methods in METHODS.items():
            made = getattr(importlib.import_module(module), title)
            self.assertEqual(made.__module__, module)
            for name, arguments in methods.items():
                with self.subTest(title=title, name=name):
                    self.assertEqual(names_of(vars(made)[name]), ["self"] + arguments)
                    self.assertIsNone(vars(made)[name].__defaults__)

    def test_errors_with_fields(self):
        errors = importlib.import_module("lifehold.errors")
        self.assertEqual(names_of(errors.Against), ["numbers"])
        self.assertEqual(names_of(errors.BadText), ["at"])


if __name__ == "__main__":
    unittest.main()
