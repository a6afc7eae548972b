"""The interface: which functions each file defines, and with which arguments."""

import importlib
import inspect

from tests.cases import Case

INTERFACE = {
    "rules": {
        "rule_error": "value", "front": "n", "rule_text": "rule", "read_rule": "value",
    },
    "orders": {
        "order_error": "n value", "text_error": "n value", "order_text": "order", "text_text": "text",
        "read_order": "n value", "read_text": "n value",
    },
    "asking": {
        "asked": "rule order letter", "run": "rule order text",
    },
    "blocks": {
        "walls": "rule", "blocks": "rule", "is_forward": "rule", "is_front": "rule",
    },
    "classes": {
        "kind_of": "rule block", "class_size": "rule", "comes_out": "rule one other", "least_order": "rule order",
    },
    "coding": {
        "places_of": "rule order text", "text_behind": "rule order places", "cost": "rule order text",
        "exchange": "one other", "under": "text swap",
    },
    "tables": {
        "table_error": "n value", "is_full": "table", "unary": "n", "even_table": "n", "table_of": "lengths",
    },
    "streams": {
        "stream": "table places", "places_read": "table value", "coded": "rule order table text",
        "decoded": "rule order table value",
    },
    "besttables": {
        "bits": "table counts", "best_table": "counts", "best_error": "counts value", "best_for": "rule order text",
    },
    "meeting": {
        "meets": "rule one other", "meeting": "rule one other",
    },
    "resetting": {
        "teller": "rule order", "reset": "rule order",
    },
    "gaps": {
        "unlike": "one other", "gap": "rule one other", "gap_text": "rule one other", "pair_gap": "rule one other",
    },
    "gaining": {
        "gains": "rule", "gains_error": "rule value",
    },
    "summing": {
        "summary": "n text", "joined": "one other", "least_turns": "firsts lasts", "summary_error": "n value",
        "cost_from": "sums order", "behind": "sums order", "least_from": "n sums", "most_from": "n sums",
        "order_with": "n sums number", "whole": "n sums",
    },
    "alike": {
        "alike": "n one other", "parted": "n one other",
    },
    "fixed": {
        "fixed_cost": "order counts", "best_fixed": "counts", "is_best": "order counts", "twice": "order text plain",
    },
}

# What may be handed to each function under these names.
GIVEN = {
    "value": (0, 1), "n": 2, "rule": (0, 0), "order": (1, 0), "text": (0, 1), "letter": 0, "block": (0, 2),
    "one": (1, 0), "other": (0, 1), "places": (1, 1), "swap": (1, 0), "table": ("1", "0"), "lengths": (2, 1),
    "counts": (1, 2), "firsts": (0, 1), "lasts": (1, 0), "sums": (1, (0, 1), (1, 0)), "number": 2, "plain": (0, 1),
}

# What is handed in as value, where this is no tuple of two numbers.
VALUES = {
    "read_rule": "0 1", "read_order": "b a", "read_text": "b b", "places_read": "01", "decoded": "01",
}


class Interface(Case):
    def test_each_file_defines_its_functions(self):
        for name, functions in INTERFACE.items():
            module = importlib.import_module("forwardlists." + name)
            for function in functions:
                with self.subTest(function):
                    self.assertTrue(inspect.isfunction(getattr(module, function)))
                    self.assertEqual(getattr(module, function).__module__, "forwardlists." + name)

    def test_arguments_have_their_names_and_can_be_told_by_place_or_by_name(self):
        for name, functions in INTERFACE.items():
            module = importlib.import_module("forwardlists." + name)
            for function, wanted in functions.items():
                with self.subTest(function):
                    told = inspect.signature(getattr(module, function)).parameters.values()
                    self.assertEqual([one.name for one in told], wanted.split())
                    for one in told:
                        self.assertEqual(one.kind, one.POSITIONAL_OR_KEYWORD)
                        self.assertIs(one.default, one.empty)

    def test_by_place_and_by_name_the_same_is_told_and_nothing_is_changed(self):
        for name, functions in INTERFACE.items():
            module = importlib.import_module("forwardlists." + name)
            for function, wanted in functions.items():
                given = {word: GIVEN[word] for word in wanted.split()}
                if "value" in given:
                    given["value"] = VALUES.get(function, GIVEN["value"])
                if function == "joined":
                    given = {"one": GIVEN["sums"], "other": (0, (0,), (0,))}
                call = getattr(module, function)
                with self.subTest(function):
                    self.exact(call(**given), call(*given.values()))
                    self.keeps(call, *given.values())
