"""Meeting: which two orders are made one by some text, and by which."""

import itertools
import random

from forwardlists.asking import asked, run
from forwardlists.blocks import blocks, is_forward
from forwardlists.classes import comes_out
from forwardlists.errors import TooMany, Unfit
from forwardlists.meeting import meeting, meets
from forwardlists.orders import text_error
from tests.cases import STAYING, Case, all_orders, all_out, all_rules, rules_up_to, some_order, some_rules, some_text


def made_one(rule):
    """All pairs of orders that some text makes one, whatever its length: found backwards from pairs of one order."""
    orders = all_orders(len(rule))
    before = {}
    for one, other in itertools.product(orders, repeat=2):
        for letter in range(len(rule)):
            before.setdefault((asked(rule, one, letter), asked(rule, other, letter)), []).append((one, other))
    found = {(order, order) for order in orders}
    waiting = list(found)
    while waiting:
        for pair in before.get(waiting.pop(), []):
            if pair not in found:
                found.add(pair)
                waiting.append(pair)
    return found


class Examples(Case):
    def test_examples(self):
        self.holds("""
            >>> from forwardlists.asking import run
            >>> from forwardlists.meeting import meeting, meets
            >>> halves, mixed, even = (0, 0, 1), (0, 1, 0, 3, 3), (0, 1, 0, 1, 2)
            >>> meets(halves, (0, 1, 2), (2, 1, 0)), meets(mixed, (0, 1, 2, 3, 4), (2, 0, 1, 4, 3)), meets(mixed, (0, 1, 2, 3, 4), (1, 0, 2, 3, 4)), meets(even, (0, 1, 2, 3, 4), (4, 2, 0, 3, 1))
            (True, True, False, False)
            >>> run(halves, (0, 1, 2), (1, 0, 0)), run(halves, (2, 1, 0), (1, 0, 0)), run(mixed, (0, 1, 2, 3, 4), (2, 3)), run(mixed, (2, 0, 1, 4, 3), (2, 3))
            ((0, 1, 2), (0, 1, 2), (2, 0, 1, 3, 4), (2, 0, 1, 3, 4))
            >>> text = meeting(mixed, (0, 1, 2, 3, 4), (1, 2, 0, 4, 3))
            >>> run(mixed, (0, 1, 2, 3, 4), text) == run(mixed, (1, 2, 0, 4, 3), text)
            True
            >>> meeting(mixed, (0, 1, 2, 3, 4), (1, 0, 2, 3, 4))
            raises Unfit()
        """)


class Meeting(Case):
    def check(self, rule, one, other, wanted):
        self.exact(meets(rule, one, other), wanted)
        if not wanted:
            self.raises(Unfit(), meeting, rule, one, other)
            return
        text = meeting(rule, one, other)
        self.exact(text_error(len(rule), text), None)
        self.exact(run(rule, one, text), run(rule, other, text))

    def test_all_orders_of_all_rules_of_one_to_four_places(self):
        for rule in rules_up_to(4):
            pairs = made_one(rule)
            for one in all_orders(len(rule)):
                out = all_out(rule, one)
                for other in all_orders(len(rule)):
                    self.assertEqual((one, other) in pairs, other in out)
                    self.check(rule, one, other, other in out)

    def test_all_rules_of_five_places_with_some_orders(self):
        chance = random.Random(61)
        for rule in all_rules(5):
            for _ in range(6):
                one = some_order(chance, 5)
                self.check(rule, one, run(rule, one, some_text(chance, 5, 30)), True)
                other = some_order(chance, 5)
                self.check(rule, one, other, comes_out(rule, one, other))

    def test_rules_of_six_and_seven_places(self):
        chance = random.Random(62)
        for rule in chance.sample(all_rules(6), 80) + chance.sample(all_rules(7), 80):
            one = some_order(chance, len(rule))
            self.check(rule, one, run(rule, one, some_text(chance, len(rule), 60)), True)
            other = some_order(chance, len(rule))
            self.check(rule, one, other, comes_out(rule, one, other))

    def test_the_odd_rules(self):
        chance = random.Random(63)
        for rule in ((0, 1, 2, 0, 4, 1), (0, 1, 2, 0, 4, 2), (0, 1, 2, 3, 0, 2)):
            one = some_order(chance, 6)
            out = all_out(rule, one)
            for other in all_orders(6):
                self.exact(meets(rule, one, other), other in out)
            for other in out[::7]:
                self.check(rule, one, other, True)

    def test_rules_of_up_to_twelve_places(self):
        chance = random.Random(64)
        for rule in some_rules(200, 64, 8, 12) + [(0,) * 12, tuple(range(12)), (0, 0, 1, 0, 3, 4, 0, 0, 5, 5, 1, 10)]:
            n = len(rule)
            one = some_order(chance, n)
            other = run(rule, one, some_text(chance, n, 60))
            try:
                comes_out(rule, one, other)
            except TooMany:
                self.raises(TooMany(7), meets, rule, one, other)
                self.raises(TooMany(7), meeting, rule, one, other)
                continue
            self.check(rule, one, other, True)
            further = some_order(chance, n)
            self.check(rule, one, further, comes_out(rule, one, further))

    def test_seven_places_of_which_some_stay_and_five_more(self):
        chance = random.Random(65)
        for first in chance.sample([rule for rule in all_rules(7) if len(blocks(rule)) == 1], 12):
            rule = first + tuple(7 + goal for goal in chance.choice(all_rules(5)))
            one = some_order(chance, 12)
            self.check(rule, one, run(rule, one, some_text(chance, 12, 90)), True)

    def test_the_longest_rules_that_are_forward(self):
        chance = random.Random(66)
        for rule in ((0,) * 12, (0,) + tuple(range(11)), (0, 0, 0, 0, 0, 0, 6, 6, 7, 6, 9, 10)):
            self.exact(is_forward(rule), True)
            for _ in range(4):
                one = some_order(chance, 12)
                self.check(rule, one, run(rule, one, some_text(chance, 12, 200)), True)

    def test_letters_that_stand_in_unlike_blocks(self):
        self.check((0, 1), (0, 1), (1, 0), False)
        self.check((0, 1, 1), (0, 1, 2), (0, 2, 1), True)
        self.check((0, 1, 1), (0, 1, 2), (2, 1, 0), False)
        self.check((0, 1, 2, 2), (0, 1, 2, 3), (1, 0, 2, 3), False)
        self.check((0,) * 11 + (11,), tuple(range(12)), tuple(range(11, -1, -1)), False)

    def test_one_order_alone(self):
        for rule in rules_up_to(4) + [(0,) * 12, tuple(range(12))]:
            self.check(rule, tuple(range(len(rule))), tuple(range(len(rule))), True)

    def test_other_letters_may_come_behind(self):
        chance = random.Random(67)
        for rule in rules_up_to(4):
            n = len(rule)
            one = some_order(chance, n)
            other = run(rule, one, some_text(chance, n, 12))
            text = meeting(rule, one, other) + some_text(chance, n, 20)
            self.exact(run(rule, one, text), run(rule, other, text))

    def test_too_many_places_are_told_of_ahead_of_all_else(self):
        eight, nine = tuple(range(8)), tuple(range(9))
        for call in (meets, meeting):
            self.raises(TooMany(7), call, STAYING, eight, eight)
            self.raises(TooMany(7), call, STAYING, eight, eight[::-1])
            self.raises(TooMany(7), call, STAYING + (8,), nine, nine[::-1])
            self.raises(TooMany(7), call, (0,) + tuple(goal + 1 for goal in STAYING), nine, nine[::-1])
            self.raises(TooMany(7), call, rule=STAYING, one=eight, other=eight)
        self.check((0, 1) + (0,) * 5, (0, 1, 2, 3, 4, 5, 6), (1, 0, 2, 3, 4, 5, 6), True)

    def test_by_name_and_nothing_is_changed(self):
        self.exact(meets(rule=(0, 1, 0), one=(0, 1, 2), other=(1, 0, 2)), False)
        self.exact(run((0, 1), (1, 0), meeting(rule=(0, 1), one=(1, 0), other=(1, 0))), (1, 0))
        for rule in rules_up_to(3):
            for one, other in itertools.product(all_orders(len(rule)), repeat=2):
                self.keeps(meets, rule, one, other)
                self.keeps(meeting, rule, one, other)
