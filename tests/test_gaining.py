"""Gains: rounds of letters that cost ever more from one order than from another one."""

import itertools
import random

from forwardlists.asking import run
from forwardlists.blocks import is_front
from forwardlists.coding import cost
from forwardlists.gaining import gains, gains_error
from forwardlists.orders import order_error, text_error
from tests.cases import STAYING, Case, all_orders, all_rules, any_values, rules_up_to, some_order, some_rules, some_text


def fault(rule, value):
    """What is wrong with value as a gain of rule, by the words of the document."""
    n = len(rule)
    if type(value) is not tuple or len(value) != 3:
        return "form"
    if order_error(n, value[0]) is not None:
        return "order"
    if text_error(n, value[1]) is not None:
        return "lead"
    if text_error(n, value[2]) is not None or len(value[2]) not in range(1, n + 1):
        return "text"
    one, other = value[0], run(rule, value[0], value[1])
    if (run(rule, one, value[2]), run(rule, other, value[2])) != (one, other):
        return "back"
    return None if cost(rule, one, value[2]) > cost(rule, other, value[2]) else "cost"


def changed(chance, n, letters):
    """A row of letters with two exchanged, one left out, one put in, one told otherwise."""
    rows = [letters[::-1], letters + (chance.randrange(n),), (chance.randrange(n),) + letters, letters + letters]
    for at in range(len(letters)):
        other = chance.randrange(len(letters))
        row = list(letters)
        row[at], row[other] = row[other], row[at]
        rows.append(tuple(row))
        rows.append(letters[:at] + letters[at + 1:])
        rows.append(letters[:at] + (chance.randint(-1, n),) + letters[at:])
        rows.append(letters[:at] + (chance.randint(-1, n),) + letters[at + 1:])
    return rows


class Examples(Case):
    def test_examples(self):
        self.holds("""
            >>> from forwardlists.coding import cost
            >>> from forwardlists.asking import run
            >>> from forwardlists.gaining import gains, gains_error
            >>> gains((0, 0, 0)), gains((0, 0, 2, 2)), gains((0, 1))
            (None, None, None)
            >>> [gains_error((0, 0, 1), value) for value in (gains((0, 0, 1)), ((0, 1, 2), (2, 2, 1, 1), (2, 1)), ((0, 1, 2), (), (2, 1)), ((0, 1, 2), (2, 2, 1, 1), (2,)))]
            [None, None, 'cost', 'back']
            >>> run((0, 0, 1), (0, 1, 2), (2, 2, 1, 1)), cost((0, 0, 1), (0, 1, 2), (2, 1)), cost((0, 0, 1), (1, 2, 0), (2, 1))
            ((1, 2, 0), 4, 2)
            >>> [gains_error((0, 1, 0), value) for value in (((0, 1, 2), (2, 1), (1,)), ((0, 1), (2, 1), (1,)), ((0, 1, 2), (3,), (1,)), ((0, 1, 2), (2, 1), ()), ((0, 1, 2), (2, 1)))]
            [None, 'order', 'lead', 'text', 'form']
        """)


class Gains(Case):
    def check(self, rule):
        value = gains(rule)
        if is_front(rule):
            self.exact(value, None)
            return
        n = len(rule)
        self.assertEqual((type(value), len(value)), (tuple, 3))
        one, lead, text = value
        self.exact((order_error(n, one), text_error(n, lead), text_error(n, text)), (None, None, None))
        self.assertIn(len(text), range(1, n + 1))
        self.exact(gains_error(rule, value), None)
        other = run(rule, one, lead)
        # Asked again and again it costs ever more.
        gained = [cost(rule, one, text * many) - cost(rule, other, text * many) for many in range(5)]
        self.assertGreater(gained[1], 0)
        self.assertEqual(gained, [gained[1] * many for many in range(5)])

    def test_all_rules_of_one_to_six_places(self):
        for rule in rules_up_to(6):
            self.check(rule)

    def test_rules_of_seven_to_twelve_places(self):
        chance = random.Random(91)
        for rule in chance.sample(all_rules(7), 500) + some_rules(500, 91, 8, 12):
            self.check(rule)

    def test_rules_whose_first_places_lead_to_the_front(self):
        for late in range(1, 12):
            for goal in range(1, late + 1):
                for last in range(late):
                    self.check((0,) * late + (goal,) + (last,) * (11 - late))
        self.check((0,) + tuple(range(11)))
        self.check((0, 0, 2, 2, 2, 5, 6, 7, 8, 9, 10, 5))
        self.check(STAYING)

    def test_by_name(self):
        self.exact(gains(rule=(0, 0, 2)), None)


class GainsError(Case):
    def test_any_value(self):
        for rule in ((0,), (0, 0), (0, 0, 1), (0, 1, 0), (0, 1, 2, 0), (0,) * 12):
            for value in any_values():
                self.exact(gains_error(rule, value), "form" if not (type(value) is tuple and len(value) == 3) else "order")
                self.keeps(gains_error, rule, value)

    def test_any_value_in_place_of_each_item(self):
        for rule in ((0, 0, 1), (0, 1, 0), (0, 1, 0, 1), (0,) + tuple(range(11))):
            right = gains(rule)
            for other in any_values():
                for value in ((other,) + right[1:], (right[0], other, right[2]), right[:2] + (other,), right + (other,)):
                    self.exact(gains_error(rule, value), fault(rule, value))
                    self.keeps(gains_error, rule, value)

    def test_gains_that_were_changed(self):
        chance = random.Random(92)
        told = {}
        for rule in rules_up_to(5) + some_rules(100, 92):
            right = gains(rule)
            if right is None:
                continue
            n = len(rule)
            self.exact(gains_error(rule, list(right)), "form")
            for at in range(3):
                self.exact(gains_error(rule, right[:at] + right[at + 1:]), "form")
                self.exact(gains_error(rule, right[:at] + ((),) + right[at:]), "form")
                for item in changed(chance, n, right[at]) + [list(right[at])]:
                    value = right[:at] + (item,) + right[at + 1:]
                    wanted = fault(rule, value)
                    told[wanted] = True
                    self.exact(gains_error(rule, value), wanted)
            for value in itertools.permutations(right):
                self.exact(gains_error(rule, value), fault(rule, value))
        self.assertEqual(set(told), {None, "order", "lead", "text", "back", "cost"})

    def test_what_is_told_first(self):
        right = gains((0, 0, 1))
        self.exact(gains_error((0, 0, 1), ((0, 1), (3,), (3,))), "order")
        self.exact(gains_error((0, 0, 1), (right[0], (3,), (3,))), "lead")
        self.exact(gains_error((0, 0, 1), (right[0], (), (3,))), "text")
        self.exact(gains_error((0, 0, 1), (right[0], (), (1,))), "back")
        self.exact(gains_error((0, 0, 1), (right[0], (), (0,))), "cost")
        self.exact(gains_error((0, 0, 1), ((0, 1), (3,))), "form")

    def test_as_many_letters_as_can_be_and_more(self):
        rule = (0, 1, 0)
        self.exact(gains_error(rule, ((0, 1, 2), (2, 1) + (1,) * 398, (1,))), None)
        self.exact(gains_error(rule, ((0, 1, 2), (2, 1) + (1,) * 399, (1,))), "lead")
        self.exact(gains_error(rule, ((0, 1, 2), (2, 1), (1,) * 3)), None)
        self.exact(gains_error(rule, ((0, 1, 2), (2, 1), (1,) * 4)), "text")
        self.exact(gains_error(rule, ((0, 1, 2), (2, 1), ())), "text")
        self.exact(gains_error((0, 1), ((0, 1), (), (1,))), "cost")

    def test_only_one_of_both_is_led_back(self):
        # By the first rule 1 stays at its place, and 2 does not; from the last place either one goes ahead.
        self.exact(fault((0, 1, 0), ((0, 1, 2), (2,), (1,))), "back")
        self.exact(gains_error((0, 1, 0), ((0, 1, 2), (2,), (1,))), "back")
        self.exact(gains_error((0, 1, 0), ((2, 0, 1), (1,), (1,))), "back")
        self.exact(gains_error((0, 1, 0), ((1, 2, 0), (), (2,))), "cost")

    def test_true_is_no_letter(self):
        self.exact(gains_error((0, 1, 0), ((0, True, 2), (2, 1), (1,))), "order")
        self.exact(gains_error((0, 1, 0), ((0, 1, 2), (2, True), (1,))), "lead")
        self.exact(gains_error((0, 1, 0), ((0, 1, 2), (2, 1), (True,))), "text")

    def test_no_value_is_a_gain_of_a_rule_that_leads_to_the_front(self):
        for rule in rules_up_to(3):
            if not is_front(rule):
                continue
            n = len(rule)
            rows = [row for many in range(4) for row in itertools.product(range(n), repeat=many)]
            for one in all_orders(n):
                for lead, text in itertools.product(rows, repeat=2):
                    self.assertIsNotNone(gains_error(rule, (one, lead, text)))

    def test_all_small_values_beside_the_words(self):
        for rule in all_rules(3):
            rows = [row for many in range(3) for row in itertools.product(range(3), repeat=many)]
            for one in all_orders(3)[::2]:
                for lead, text in itertools.product(rows, rows + [(0, 1, 2), (2, 1, 0), (1, 1, 1, 1)]):
                    self.exact(gains_error(rule, (one, lead, text)), fault(rule, (one, lead, text)))

    def test_long_leads(self):
        chance = random.Random(93)
        for rule in some_rules(60, 93):
            n = len(rule)
            value = (some_order(chance, n), some_text(chance, n, 400), some_text(chance, n, chance.randint(1, n)))
            self.exact(gains_error(rule, value), fault(rule, value))

    def test_by_name(self):
        self.exact(gains_error(rule=(0, 1, 0), value=((0, 1, 2), (2, 1), (1,))), None)
