"""The interface: which functions each file defines, and with which arguments."""

import importlib
import inspect

from tests.cases import Case

INTERFACE = {
    "rules": {
        "rule_error": "value", "front": "n", "rule_text": "rule", "read_rule": "value",
    },
    "orders": {
        "order_error": "n value", "text_error": "n value", "order_text": "order", "text_text": "text",
        "read_order": "n value", "read_text": "n value",
    },
    "asking": {
        "asked": "rule order letter", "run": "rule order text",
    },
    "blocks": {
        "walls": "rule", "blocks": "rule", "is_forward": "rule", "is_front": "rule",
    },
    "classes": {
        "kind_of": "rule block", "class_size": "rule", "comes_out": "rule one other", "least_order": "rule order",
    },
    "coding": {
        "places_of": "rule order text", "text_behind": "rule order places", "cost": "rule order text",
        "exchange": "one other", "under": "text swap",
    },
    "tables": {
        "table_error": "n value", "is_full": "table", "unary": "n", "even_table": "n", "table_of": "lengths",
    },
    "streams": {
        "stream": "table places", "places_read": "table value", "coded": "rule order table text",
        "decoded": "rule order table value",
    },
    "besttables": {
        "bits": "table counts", "best_table": "counts", "best_error": "counts value", "best_for": "rule order text",
    },
    "meeting": {
        "meets": "rule one other", "meeting": "rule one other",
    },
    "resetting": {
        "teller": "rule order", "reset": "rule order",
    },
    "gaps": {
        "unlike": "one other", "gap": "rule one other", "gap_text": "rule one other", "pair_gap": "rule one other",
    },
    "gaining": {
        "gains": "rule", "gains_error": "rule value",
    },
    "summing": {
        "summary": "n text", "joined": "one other", "least_turns": "firsts lasts", "summary_error": "n value",
        "cost_from": "sums order", "behind": "sums order", "least_from": "n sums", "most_from": "n sums",
        "order_with": "n sums number", "whole": "n sums",
    },
    "alike": {
        "alike": "n one other", "parted": "n one other",
    },
    "fixed": {
        "fixed_cost": "order counts", "best_fixed": "counts", "is_best": "order counts", "twice": "order text plain",
    },
    "leasts": {
        "counts_of": "n text", "changes": "text b c", "pairs_table": "n text", "late": "order text",
        "least_cost": "order counts", "least_text": "order counts",
    },
    "ropes": {
        "rope_error": "n value", "rope_text": "rope", "rope_of": "n text", "part_sums": "n rope begin end",
        "rope_joined": "n one other", "rope_in": "n rope at text", "rope_out": "n rope begin end",
    },
    "desks": {
        "desk_behind": "n value",
    },
    "papers": {
        "gap_paper": "rule one other", "gap_paper_error": "rule one other value",
        "meeting_paper": "rule one other", "meeting_paper_error": "rule one other value",
        "alike_paper": "n one other", "alike_paper_error": "n one other value",
        "ladder": "n sums", "ladder_error": "n sums value",
    },
    "lexing": {
        "is_name": "value", "tokens": "value",
    },
    "books": {
        "book_error": "value", "order_in": "book name", "table_in": "book name", "text_in": "book name",
    },
    "booktexts": {
        "book_text": "book", "read_book": "value",
    },
    "answers": {
        "answered": "book",
    },
}

# The methods that each class defines itself, with their arguments.
CLASSES = {
    "desks": {
        "Desk": {
            "__init__": "n", "insert": "at text", "erase": "begin end", "move": "begin end to", "undo": "", "redo": "",
            "cost_by": "order", "behind_by": "order", "part_cost": "begin end order", "span": "", "copy": "",
            "__eq__": "other",
        },
    },
    "shells": {
        "Shell": {
            "__init__": "", "say": "line",
        },
    },
}

# What may be handed to each function under these names.
GIVEN = {
    "value": (0, 1), "n": 2, "rule": (0, 0), "order": (1, 0), "text": (0, 1), "letter": 0, "block": (0, 2),
    "one": (1, 0), "other": (0, 1), "places": (1, 1), "swap": (1, 0), "table": ("1", "0"), "lengths": (2, 1),
    "counts": (1, 2), "firsts": (0, 1), "lasts": (1, 0), "sums": (1, (0, 1), (1, 0)), "number": 2, "plain": (0, 1),
    "b": 0, "c": 1, "rope": (2, (0, (1, 0), (1, 0)), (1, 0)), "begin": 0, "end": 1, "at": 1,
    "book": (("a", "b"), (0, 0), (("x", (1, 0)),), (("y", ("0", "1")),), (("z", (1, 1)),), (("bits", "z", "y", "x"),)),
}

# What is handed in as value, where this is no tuple of two numbers.
VALUES = {
    "read_rule": "0 1", "read_order": "b a", "read_text": "b b", "places_read": "01", "decoded": "01",
    "desk_behind": (("insert", 0, (1, 0)),), "tokens": "a 0;", "read_book": "letters a;rule 0;",
}

# What is handed in, where a function means something else by these names.
OTHERS = {
    "joined": {"one": (1, (0, 1), (1, 0)), "other": (0, (0,), (0,))},
    "rope_joined": {"one": (1, (0, (0,), (0,)), (0,)), "other": (1, (0, (1,), (1,)), (1,))},
    "order_in": {"name": "x"}, "table_in": {"name": "y"}, "text_in": {"name": "z"},
}


def given_to(function, wanted):
    """What may be handed to a function with these arguments, by their names."""
    others = {"value": VALUES[function]} if function in VALUES else OTHERS.get(function, {})
    return {word: others[word] if word in others else GIVEN[word] for word in wanted.split()}


class Interface(Case):
    def test_each_file_defines_its_functions(self):
        for name, functions in INTERFACE.items():
            module = importlib.import_module("forwardlists." + name)
            for function in functions:
                with self.subTest(function):
                    self.assertTrue(inspect.isfunction(getattr(module, function)))
                    self.assertEqual(getattr(module, function).__module__, "forwardlists." + name)

    def test_arguments_have_their_names_and_can_be_told_by_place_or_by_name(self):
        for name, functions in INTERFACE.items():
            module = importlib.import_module("forwardlists." + name)
            for function, wanted in functions.items():
                with self.subTest(function):
                    told = inspect.signature(getattr(module, function)).parameters.values()
                    self.assertEqual([one.name for one in told], wanted.split())
                    for one in told:
                        self.assertEqual(one.kind, one.POSITIONAL_OR_KEYWORD)
                        self.assertIs(one.default, one.empty)

    def test_by_place_and_by_name_the_same_is_told_and_nothing_is_changed(self):
        for name, functions in INTERFACE.items():
            module = importlib.import_module("forwardlists." + name)
            for function, wanted in functions.items():
                given = given_to(function, wanted)
                call = getattr(module, function)
                with self.subTest(function):
                    by_name, by_place = call(**given), call(*given.values())
                    if function == "desk_behind":
                        by_name, by_place = by_name.log, by_place.log
                    self.exact(by_name, by_place)
                    self.keeps(call, *given.values())

    def test_each_class_defines_its_methods_in_its_file(self):
        for name, classes in CLASSES.items():
            module = importlib.import_module("forwardlists." + name)
            for word, methods in classes.items():
                kind = getattr(module, word)
                self.assertEqual((kind.__module__, kind.__bases__), ("forwardlists." + name, (object,)))
                for method, wanted in methods.items():
                    with self.subTest(method):
                        self.assertTrue(inspect.isfunction(vars(kind)[method]))
                        told = list(inspect.signature(vars(kind)[method]).parameters.values())[1:]
                        self.assertEqual([one.name for one in told], wanted.split())
                        for one in told:
                            self.assertEqual(one.kind, one.POSITIONAL_OR_KEYWORD)
                            self.assertIs(one.default, one.empty)
