"""Resetting: texts that lead all orders of a class, or of a forward rule, to one."""

import itertools
import random

from forwardlists.asking import run
from forwardlists.blocks import blocks, is_forward
from forwardlists.classes import class_size
from forwardlists.errors import TooMany, Unfit
from forwardlists.orders import text_error
from forwardlists.resetting import reset, teller
from tests.cases import STAYING, Case, all_orders, all_out, all_rules, rules_up_to, some_order, some_rules


def told_by_blocks(rule, order):
    """The text of teller, by the words of the document."""
    text = []
    for begin, end in blocks(rule):
        for place in range(end - 1, begin - 1, -1):
            text.extend([order[place]] * (end - begin))
    return tuple(text)


def same_in_blocks(rule, order):
    """All orders whose blocks hold the same letters as those of order."""
    parts = [itertools.permutations(order[begin:end]) for begin, end in blocks(rule)]
    return [tuple(itertools.chain(*rows)) for rows in itertools.product(*parts)]


class Examples(Case):
    def test_examples(self):
        self.holds("""
            >>> from forwardlists.asking import run
            >>> halves, mixed, even = (0, 0, 1), (0, 1, 0, 3, 3), (0, 1, 0, 1, 2)
            >>> from forwardlists.resetting import reset, teller
            >>> teller(halves, (0, 1, 2)), teller((0, 1, 1), (2, 0, 1))
            ((2, 2, 2, 1, 1, 1, 0, 0, 0), (2, 1, 1, 0, 0))
            >>> [run(halves, own, teller(halves, (0, 1, 2))) for own in ((1, 2, 0), (2, 1, 0), (0, 2, 1))], run((0, 1, 1), (2, 1, 0), (2, 1, 1, 0, 0))
            ([(0, 1, 2), (0, 1, 2), (0, 1, 2)], (2, 0, 1))
            >>> text = reset(mixed, (0, 1, 2, 3, 4))
            >>> len(set([run(mixed, own, text) for own in ((0, 1, 2, 3, 4), (1, 2, 0, 3, 4), (2, 0, 1, 3, 4), (0, 1, 2, 4, 3), (1, 2, 0, 4, 3), (2, 0, 1, 4, 3))]))
            1
            >>> teller(mixed, (0, 1, 2, 3, 4))
            raises Unfit()
            >>> reset((0, 0, 0, 0, 0, 0), (0, 1, 2, 3, 4, 5))
            raises TooMany(120)
        """)


class Teller(Case):
    def test_all_rules_of_one_to_five_places(self):
        chance = random.Random(71)
        for rule in rules_up_to(5):
            order = some_order(chance, len(rule))
            if not is_forward(rule):
                self.raises(Unfit(), teller, rule, order)
                continue
            text = teller(rule, order)
            self.exact(text, told_by_blocks(rule, order))
            for own in same_in_blocks(rule, order):
                self.exact(run(rule, own, text), order)

    def test_all_orders_of_rules_of_four_places(self):
        for rule in all_rules(4):
            if is_forward(rule):
                for order in all_orders(4):
                    self.exact(teller(rule, order), told_by_blocks(rule, order))
                    for own in same_in_blocks(rule, order):
                        self.exact(run(rule, own, teller(rule, order)), order)

    def test_up_to_twelve_places(self):
        chance = random.Random(72)
        some = some_rules(400, 72)
        forward = [rule for rule in some if is_forward(rule)] + [(0,) * 12, tuple(range(12)), (0,) + tuple(range(11))]
        self.assertGreater(len(forward), 10)
        for rule in forward:
            order = some_order(chance, len(rule))
            text = teller(rule, order)
            self.exact(text, told_by_blocks(rule, order))
            for _ in range(20):
                own = tuple(itertools.chain(*[
                    chance.sample(order[begin:end], end - begin) for begin, end in blocks(rule)
                ]))
                self.exact(run(rule, own, text), order)
        for rule in some:
            if not is_forward(rule):
                self.raises(Unfit(), teller, rule, tuple(range(len(rule))))

    def test_how_many_letters_it_has(self):
        for rule in rules_up_to(5):
            if is_forward(rule):
                squares = sum((end - begin) ** 2 for begin, end in blocks(rule))
                self.exact(len(teller(rule, tuple(range(len(rule))))), squares)
        self.exact(len(teller((0,) * 12, tuple(range(12)))), 144)
        self.exact(teller(tuple(range(12)), tuple(range(12))), tuple(range(12)))

    def test_what_stays_behind_a_first_place_is_unfit(self):
        self.raises(Unfit(), teller, (0, 1, 0), (0, 1, 2))
        self.raises(Unfit(), teller, STAYING, tuple(range(8)))
        self.raises(Unfit(), teller, (0, 0, 2, 3, 2), (0, 1, 2, 3, 4))
        self.exact(teller((0, 1), (1, 0)), (1, 0))

    def test_by_name(self):
        self.exact(teller(rule=(0, 0), order=(1, 0)), (0, 0, 1, 1))
        self.raises(Unfit(), teller, rule=(0, 1, 0), order=(0, 1, 2))


class Reset(Case):
    def check(self, rule, order):
        if class_size(rule) > 120:
            self.raises(TooMany(120), reset, rule, order)
            return
        out = all_out(rule, order)
        text = reset(rule, order)
        self.exact(text_error(len(rule), text), None)
        self.assertEqual(len(out), class_size(rule))
        self.assertEqual(len({run(rule, own, text) for own in out}), 1)

    def test_all_classes_of_rules_of_one_to_four_places(self):
        for rule in rules_up_to(4):
            for order in all_orders(len(rule)):
                self.check(rule, order)

    def test_all_rules_of_five_places(self):
        chance = random.Random(73)
        for rule in all_rules(5):
            self.check(rule, some_order(chance, 5))

    def test_single_blocks_of_up_to_seven_places_take_few_letters(self):
        chance = random.Random(76)
        longest = 0
        for rule in rules_up_to(7):
            if len(blocks(rule)) == 1 and class_size(rule) <= 120:
                order = some_order(chance, len(rule))
                self.check(rule, order)
                longest = max(longest, len(reset(rule, order)))
        # So beside such a block there is room in a text for others, as a class has few orders.
        self.assertLess(longest, 100)

    def test_rules_of_six_and_seven_places(self):
        chance = random.Random(74)
        some = chance.sample(all_rules(6), 60) + chance.sample(all_rules(7), 20)
        some += [(0, 1, 2, 0, 4, 1), (0, 1, 2, 0, 4, 2), (0, 1, 2, 3, 0, 2), (0, 1, 2, 3, 4, 0), (0, 1, 2, 3, 4, 5, 1)]
        for rule in some + [(0, 1, 2, 3, 4, 5, 0), (0, 0, 0, 0, 0, 5, 6)]:
            self.check(rule, some_order(chance, len(rule)))

    def test_twelve_places_in_many_blocks(self):
        for rule in (
            (0, 0, 2, 2, 4, 4, 6, 6, 8, 8, 10, 11), (0, 1, 2, 3, 4, 5, 0, 7, 8, 9, 10, 7), tuple(range(12)),
            (0, 1, 2, 0, 0, 5, 5, 7, 7, 9, 10, 11), (0, 1, 2, 3, 0, 2, 6, 7, 8, 9, 10, 11), (0, 1, 0, 0, 0, 5, 5, 5, 8),
            (0, 0, 2, 2, 4, 5, 4, 7, 8, 7, 10, 11), (0, 1, 2, 3, 4, 4, 4, 4, 4, 9, 10, 11),
        ):
            self.check(rule, some_order(random.Random(75), len(rule)))

    def test_as_many_orders_as_can_be_and_more(self):
        self.exact(class_size((0, 0, 0, 0, 0)), 120)
        self.check((0, 0, 0, 0, 0), (4, 1, 0, 3, 2))
        self.check((0, 0, 1, 2, 3), (4, 1, 0, 3, 2))
        self.raises(TooMany(120), reset, (0, 0, 0, 0, 0, 5, 5), (0, 1, 2, 3, 4, 5, 6))
        self.raises(TooMany(120), reset, (0, 1, 0, 0, 0, 0), (0, 1, 2, 3, 4, 5))
        self.raises(TooMany(120), reset, (0,) * 12, tuple(range(12)))

    def test_what_is_told_first(self):
        self.raises(TooMany(7), reset, STAYING, tuple(range(8)))
        self.raises(TooMany(7), reset, STAYING + (8, 8, 8, 8), tuple(range(12)))
        self.raises(TooMany(7), reset, (0, 0, 0, 0) + tuple(4 + goal for goal in STAYING), tuple(range(12)))
        self.raises(TooMany(120), reset, (0,) * 8, tuple(range(8)))
        self.raises(TooMany(120), reset, (0, 1) + (0,) * 5, tuple(range(7)))

    def test_by_name_and_nothing_is_changed(self):
        text = reset(rule=(0, 0), order=(1, 0))
        self.exact(run((0, 0), (0, 1), text), run((0, 0), (1, 0), text))
        self.raises(TooMany(120), reset, rule=(0,) * 6, order=(0, 1, 2, 3, 4, 5))
        for rule in rules_up_to(3):
            for order in all_orders(len(rule)):
                self.keeps(teller, rule, order)
                self.keeps(reset, rule, order)
