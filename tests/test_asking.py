"""Asking for letters."""

import itertools
import random

from forwardlists.asking import asked, run
from tests.cases import Case, all_of_three_places, all_orders, rules_up_to, some_order, some_rules, some_text


def taken_and_put(rule, order, letter):
    """The order behind an ask, by taking the letter out and putting it in again."""
    letters = list(order)
    place = letters.index(letter)
    letters.insert(rule[place], letters.pop(place))
    return tuple(letters)


def swapped(letters, swap):
    """letters with swap[letter] in the place of each letter."""
    return tuple(swap[letter] for letter in letters)


class Examples(Case):
    def test_examples(self):
        self.holds("""
            >>> from forwardlists.rules import front
            >>> from forwardlists.asking import asked, run
            >>> asked((0, 0, 1), (2, 0, 1), 1), asked((0, 0, 1), (2, 0, 1), 0), asked((0, 0, 1), (2, 0, 1), 2)
            ((2, 1, 0), (0, 2, 1), (2, 0, 1))
            >>> run((0, 0, 1), (2, 0, 1), (1, 1, 0)), run(front(3), (0, 1, 2), (2, 1, 2)), run((0, 1), (1, 0), (0, 0, 0)), run(front(3), (0, 1, 2), ())
            ((1, 0, 2), (2, 1, 0), (1, 0), (0, 1, 2))
        """)


class Asked(Case):
    def test_all_rules_of_few_places_with_all_orders_and_letters(self):
        for rule in rules_up_to(4):
            for order in all_orders(len(rule)):
                for letter in order:
                    self.exact(asked(rule, order, letter), taken_and_put(rule, order, letter))

    def test_rules_of_up_to_twelve_places(self):
        chance = random.Random(5)
        for rule in some_rules(200, 6):
            order = some_order(chance, len(rule))
            for letter in order:
                self.exact(asked(rule, order, letter), taken_and_put(rule, order, letter))

    def test_an_ask_at_the_place_0_or_for_a_letter_that_stays_changes_nothing(self):
        for rule in rules_up_to(4) + some_rules(50, 7):
            order = some_order(random.Random(len(rule)), len(rule))
            self.exact(asked(rule, order, order[0]), order)
            for place, goal in enumerate(rule):
                if goal == place:
                    self.exact(asked(rule, order, order[place]), order)

    def test_an_ask_changes_the_order_of_no_others(self):
        for rule in rules_up_to(4):
            for order in all_orders(len(rule)):
                for letter in order:
                    self.check_pairs(rule, order, letter)

    def check_pairs(self, rule, order, letter):
        behind = asked(rule, order, letter)
        self.assertEqual(sorted(behind), sorted(order))
        place = order.index(letter)
        passed = order[rule[place]:place]
        for one, other in itertools.combinations(order, 2):
            turned = behind.index(one) > behind.index(other)
            self.assertEqual(turned, other == letter and one in passed)

    def test_by_name(self):
        self.exact(asked(rule=(0, 0), order=(1, 0), letter=0), (0, 1))


class Run(Case):
    def test_all_rules_of_three_places_with_all_orders_and_short_texts(self):
        for rule, order, text in all_of_three_places(3):
            self.check(rule, order, text)

    def test_texts_of_400_letters_and_more(self):
        chance = random.Random(8)
        for rule in some_rules(20, 9, 1, 12):
            for length in (400, 401, 1000):
                self.check(rule, some_order(chance, len(rule)), some_text(chance, len(rule), length))

    def check(self, rule, order, text):
        wanted = order
        for letter in text:
            wanted = taken_and_put(rule, wanted, letter)
        self.exact(run(rule, order, text), wanted)

    def test_the_empty_text_changes_nothing(self):
        for rule in rules_up_to(4):
            for order in all_orders(len(rule)):
                self.exact(run(rule, order, ()), order)

    def test_a_text_may_be_cut_anywhere(self):
        chance = random.Random(10)
        for rule in rules_up_to(4) + some_rules(50, 11):
            order, text = some_order(chance, len(rule)), some_text(chance, len(rule), 12)
            for cut in range(13):
                between = run(rule, order, text[:cut])
                self.exact(run(rule, between, text[cut:]), run(rule, order, text))

    def test_letters_called_otherwise_are_led_alike(self):
        chance = random.Random(12)
        for rule in rules_up_to(4) + some_rules(50, 13):
            n = len(rule)
            order, text, swap = some_order(chance, n), some_text(chance, n, 30), some_order(chance, n)
            got = run(rule, swapped(order, swap), swapped(text, swap))
            self.exact(got, swapped(run(rule, order, text), swap))

    def test_by_name(self):
        self.exact(run(rule=(0, 0), order=(1, 0), text=(0, 1, 0)), (0, 1))
