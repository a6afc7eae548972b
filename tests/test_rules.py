"""Rules: what is one, and their texts."""

import itertools
import re

from forwardlists.errors import BadRule, BadText
from forwardlists.rules import front, read_rule, rule_error, rule_text
from tests.cases import Case, any_values, rules_up_to, some_rules, spoilt

NUMBER = "(0|[1-9][0-9]?)"
WHOLE = re.compile(f"{NUMBER}( {NUMBER})*")
BEGUN = re.compile(f"({NUMBER} )*{NUMBER}?")


def fault(value):
    """What is wrong with value as a rule, by the words of the document."""
    if type(value) is not tuple or len(value) not in range(1, 13):
        return "form"
    for place, item in enumerate(value):
        if type(item) is not int or item not in range(place + 1):
            return ("place", place)
    return None


def reading(value):
    """What reading value has to end with: a rule, or the error."""
    if type(value) is not str:
        return BadText(0)
    if WHOLE.fullmatch(value):
        rule = tuple(int(word) for word in value.split())
        return rule if fault(rule) is None else BadRule(fault(rule))
    return BadText(BEGUN.match(value).end())


class Examples(Case):
    def test_examples_of_rule_error_and_front(self):
        self.holds("""
            >>> from forwardlists.rules import front, read_rule, rule_error, rule_text
            >>> [rule_error(value) for value in ((0, 0, 1), (0,), (0, 1, 2, 0), (), (0,) * 13, [0, 0], (1, 0), (0, 0, 3), (0, True), (0, -1))]
            [None, None, None, 'form', 'form', 'form', ('place', 0), ('place', 2), ('place', 1), ('place', 1)]
            >>> front(1), front(4), rule_error(front(12))
            ((0,), (0, 0, 0, 0), None)
        """)

    def test_examples_of_texts_of_rules(self):
        self.holds("""
            >>> from forwardlists.rules import front, read_rule, rule_error, rule_text
            >>> rule_text((0, 0, 1)), rule_text((0,) * 11 + (10,)), read_rule("0 1 0")
            ('0 0 1', '0 0 0 0 0 0 0 0 0 0 0 10', (0, 1, 0))
            >>> read_rule("0 00")
            raises BadText(3)
            >>> read_rule("0  1")
            raises BadText(2)
            >>> read_rule("0 ")
            raises BadText(2)
            >>> read_rule("0 2")
            raises BadRule(('place', 1))
        """)


class RuleError(Case):
    def test_all_short_tuples(self):
        for many in range(5):
            for value in itertools.product(range(-1, 5), repeat=many):
                self.exact(rule_error(value), fault(value))

    def test_any_value(self):
        for value in any_values():
            self.exact(rule_error(value), fault(value))

    def test_any_value_as_an_item(self):
        for item in any_values():
            for ahead in range(12):
                value = (0,) * ahead + (item,) + (0,) * (11 - ahead)
                self.exact(rule_error(value), fault(value))

    def test_every_rule_is_one(self):
        for rule in rules_up_to(6) + some_rules(50, 1, 7, 12):
            self.exact(rule_error(rule), None)

    def test_as_many_places_as_can_be_and_one_more(self):
        self.exact(rule_error((0,)), None)
        self.exact(rule_error(tuple(range(12))), None)
        self.exact(rule_error(()), "form")
        self.exact(rule_error(tuple(range(13))), "form")

    def test_each_item_is_at_most_its_place(self):
        for place in range(12):
            self.exact(rule_error((0,) * place + (place,)), None)
            self.exact(rule_error((0,) * place + (place + 1,)), ("place", place))
            self.exact(rule_error((0,) * place + (-1,)), ("place", place))

    def test_true_and_false_are_no_integers(self):
        self.exact(rule_error((False,)), ("place", 0))
        self.exact(rule_error((0, True)), ("place", 1))
        self.exact(rule_error((0, False)), ("place", 1))

    def test_what_is_told_first(self):
        self.exact(rule_error((0, 5, True, -1)), ("place", 1))
        self.exact(rule_error((7,) * 13), "form")
        self.exact(rule_error([1]), "form")

    def test_by_name_and_kept(self):
        self.exact(rule_error(value=(0, 2)), ("place", 1))
        for value in any_values():
            self.keeps(rule_error, value)


class Front(Case):
    def test_each_number_of_places(self):
        for n in range(1, 13):
            self.exact(front(n), tuple(0 for _ in range(n)))
        self.exact(front(n=2), (0, 0))


class Texts(Case):
    def test_a_text_has_all_items_in_decimal(self):
        self.exact(rule_text((0,)), "0")
        self.exact(rule_text(tuple(range(12))), "0 1 2 3 4 5 6 7 8 9 10 11")
        self.exact(rule_text(rule=(0, 0, 2, 1)), "0 0 2 1")

    def test_what_is_read_of_a_text_is_the_rule(self):
        for rule in rules_up_to(6) + some_rules(200, 2, 7, 12):
            self.exact(read_rule(rule_text(rule)), rule)

    def test_unlike_rules_have_unlike_texts(self):
        rules = rules_up_to(6)
        self.assertEqual(len({rule_text(rule) for rule in rules}), len(rules))


class Reading(Case):
    def read(self, value):
        wanted = reading(value)
        if isinstance(wanted, tuple):
            self.exact(read_rule(value), wanted)
        else:
            self.raises(wanted, read_rule, value)

    def test_all_short_strings(self):
        for many in range(6):
            for signs in itertools.product("0129 a\n", repeat=many):
                self.read("".join(signs))

    def test_spoilt_texts(self):
        texts = [rule_text(rule) for rule in ((0,), (0, 1), (0, 0, 1, 3), tuple(range(12)), (0,) * 11 + (10,))]
        for text in texts:
            for value in spoilt(text, "0129 a-,\n"):
                self.read(value)

    def test_any_value(self):
        for value in any_values():
            self.read(value)
            self.keeps(read_rule, value)

    def test_what_is_no_string_is_told_by_0(self):
        for value in (None, 0, True, ("0",), ["0"], {"0": 0}):
            self.raises(BadText(0), read_rule, value)

    def test_each_way_to_spoil_a_text(self):
        spoils = {
            "": 0, " ": 0, " 0": 0, "0 ": 2, "0  0": 2, "0 0 ": 4, "00": 1, "01": 1, "0 01": 3, "0 100": 4,
            "100": 2, "0\n": 1, "\n0": 0, "0 0\n": 3, "0 -1": 2, "0,0": 1, "0 a": 2, "+0": 0, "0.0": 1, "0\n0": 1,
        }
        for value, place in spoils.items():
            self.raises(BadText(place), read_rule, value)

    def test_what_is_made_well_and_is_no_rule(self):
        self.raises(BadRule(("place", 0)), read_rule, "1")
        self.raises(BadRule(("place", 1)), read_rule, "0 99")
        self.raises(BadRule(("place", 11)), read_rule, "0 0 0 0 0 0 0 0 0 0 0 12")
        self.raises(BadRule("form"), read_rule, "0" + " 0" * 12)
        self.raises(BadRule("form"), read_rule, "99" + " 99" * 12)
        self.raises(BadRule("form"), read_rule, "0" + " 0" * 9999)

    def test_a_text_that_is_spoilt_is_told_ahead_of_a_rule_that_is_none(self):
        self.raises(BadText(4), read_rule, "9 9 x")
        self.raises(BadText(28), read_rule, "0" + " 0" * 13 + " ")

    def test_by_name(self):
        self.exact(read_rule(value="0 1"), (0, 1))
