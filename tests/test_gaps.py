"""Gaps: how much more a text can cost from one order than from another one."""

import itertools
import random

from forwardlists.asking import run
from forwardlists.blocks import is_front
from forwardlists.coding import cost
from forwardlists.errors import TooMany, Unfit
from forwardlists.gaps import gap, gap_text, pair_gap, unlike
from forwardlists.orders import text_error
from tests.cases import STAYING, Case, all_orders, all_out, all_rules, rules_up_to, some_order, some_rules, some_text


def turned_pairs(one, other):
    """How many pairs of letters stand in unlike orders, pair by pair."""
    return sum(
        (one.index(letter) < one.index(further)) != (other.index(letter) < other.index(further))
        for letter, further in itertools.combinations(range(len(one)), 2)
    )


def all_costs(rule, most):
    """For each order its costs of all texts of at most `most` letters, always in the same order of texts."""
    n = len(rule)
    steps = {order: [(run(rule, order, (letter,)), order.index(letter)) for letter in range(n)] for order in all_orders(n)}
    costs = {}
    for order in steps:
        level = [(order, 0)]
        costs[order] = [0]
        for _ in range(most):
            level = [(behind, sofar + place) for now, sofar in level for behind, place in steps[now]]
            costs[order].extend(sofar for _, sofar in level)
    return costs


def front_rules():
    """All rules of one to four places that lead to their block's first place."""
    return [rule for rule in rules_up_to(4) if is_front(rule)]


class Examples(Case):
    def test_examples(self):
        self.holds("""
            >>> from forwardlists.coding import cost
            >>> from forwardlists.asking import run
            >>> from forwardlists.gaps import gap, gap_text, pair_gap, unlike
            >>> unlike((0, 1, 2), (2, 1, 0)), unlike((0, 1, 2), (1, 0, 2)), unlike((2, 0, 1), (2, 0, 1)), unlike((0, 1, 2, 3), (1, 2, 3, 0))
            (3, 1, 0, 3)
            >>> gap((0, 0, 0), (0, 1, 2), (2, 1, 0)), cost((0, 0, 0), (0, 1, 2), (2, 1, 0)), cost((0, 0, 0), (2, 1, 0), (2, 1, 0))
            (3, 6, 3)
            >>> gap((0, 0, 2, 2), (1, 0, 2, 3), (0, 1, 3, 2)), gap((0, 0, 0), (1, 0, 2), (1, 0, 2))
            (2, 0)
            >>> text = gap_text((0, 0, 0, 0), (0, 1, 2, 3), (1, 2, 3, 0))
            >>> cost((0, 0, 0, 0), (0, 1, 2, 3), text) - cost((0, 0, 0, 0), (1, 2, 3, 0), text)
            3
            >>> gap((0, 0, 1), (0, 1, 2), (1, 0, 2))
            raises Unfit()
            >>> gap((0, 0, 2), (0, 1, 2), (2, 1, 0))
            raises Unfit()
        """)

    def test_examples_of_pair_gap(self):
        self.holds("""
            >>> from forwardlists.coding import cost
            >>> from forwardlists.asking import run
            >>> from forwardlists.gaps import gap, gap_text, pair_gap, unlike
            >>> pair_gap((0, 0, 2), (0, 1, 2), (1, 0, 2))[:2], pair_gap((0, 0, 0), (0, 1, 2), (2, 1, 0))[:2], pair_gap((0, 1), (1, 0), (1, 0))[:2]
            (('most', 1), ('most', 3), ('most', 0))
            >>> told = pair_gap((0, 1), (0, 1), (1, 0))
            >>> told[0], run((0, 1), (0, 1), told[1] + told[2]), cost((0, 1), (0, 1), told[2]) > cost((0, 1), (1, 0), told[2])
            ('endless', (0, 1), True)
            >>> [pair_gap((0, 0, 1), (0, 1, 2), other)[0] for other in ((0, 1, 2), (1, 0, 2), (2, 0, 1))]
            ['most', 'endless', 'endless']
            >>> pair_gap((0, 0, 0, 0, 0), (0, 1, 2, 3, 4), (1, 0, 2, 3, 4))
            raises TooMany(4)
        """)


class Unlike(Case):
    def test_all_orders_of_one_to_four_letters(self):
        for n in range(1, 5):
            for one, other in itertools.product(all_orders(n), repeat=2):
                self.exact(unlike(one, other), turned_pairs(one, other))

    def test_up_to_twelve_letters(self):
        chance = random.Random(81)
        for n in range(1, 13):
            for _ in range(20):
                one, other = some_order(chance, n), some_order(chance, n)
                self.exact(unlike(one, other), turned_pairs(one, other))
            self.exact(unlike(one, one[::-1]), n * (n - 1) // 2)
            self.exact(unlike(one, one), 0)

    def test_by_name(self):
        self.exact(unlike(one=(0, 1, 2), other=(2, 0, 1)), 2)


class Gap(Case):
    def check(self, rule, one, other, wanted):
        self.exact(gap(rule, one, other), wanted)
        text = gap_text(rule, one, other)
        self.exact(text_error(len(rule), text), None)
        self.exact(cost(rule, one, text) - cost(rule, other, text), wanted)

    def unfit(self, rule, one, other):
        self.raises(Unfit(), gap, rule, one, other)
        self.raises(Unfit(), gap_text, rule, one, other)

    def test_no_text_of_few_letters_has_a_greater_gap(self):
        for rule in front_rules():
            costs = all_costs(rule, 5)
            for one in costs:
                out = all_out(rule, one)
                for other in costs:
                    if other not in out:
                        self.unfit(rule, one, other)
                        continue
                    self.check(rule, one, other, turned_pairs(one, other))
                    greatest = max(more - less for more, less in zip(costs[one], costs[other]))
                    self.assertEqual(greatest, turned_pairs(one, other))

    def test_all_other_rules_are_unfit(self):
        for rule in rules_up_to(4):
            if not is_front(rule):
                for one in all_orders(len(rule)):
                    for other in all_orders(len(rule)):
                        self.unfit(rule, one, other)

    def test_up_to_twelve_letters_and_long_texts(self):
        chance = random.Random(82)
        for rule in ((0,) * 12, (0, 0, 0, 0, 0, 5, 5, 7, 8, 8, 8, 8), (0, 1, 1, 1, 1, 1, 1, 1, 1, 1), tuple(range(12))):
            n = len(rule)
            one = some_order(chance, n)
            for _ in range(12):
                other = run(rule, one, some_text(chance, n, 60))
                self.check(rule, one, other, turned_pairs(one, other))
                for length in (5, 12, 30, 400):
                    text = some_text(chance, n, length)
                    self.assertLessEqual(abs(cost(rule, one, text) - cost(rule, other, text)), turned_pairs(one, other))
        self.check((0,) * 12, tuple(range(12)), tuple(range(11, -1, -1)), 66)

    def test_both_ways_alike_and_no_longer_by_a_third_order(self):
        for rule in front_rules():
            for one in all_orders(len(rule))[::2]:
                out = all_out(rule, one)
                self.exact(gap(rule, one, one), 0)
                for other, third in itertools.product(out[::3], repeat=2):
                    self.exact(gap(rule, one, other), gap(rule, other, one))
                    self.assertLessEqual(gap(rule, one, third), gap(rule, one, other) + gap(rule, other, third))

    def test_never_too_many(self):
        eight = tuple(range(8))
        self.unfit(STAYING, eight, eight)
        self.unfit(STAYING, eight, eight[::-1])
        for rule in some_rules(100, 83, 8, 12):
            if not is_front(rule):
                self.unfit(rule, tuple(range(len(rule))), tuple(range(len(rule))))

    def test_letters_in_unlike_blocks(self):
        self.unfit((0, 1), (0, 1), (1, 0))
        self.unfit((0, 0, 2), (0, 1, 2), (0, 2, 1))
        self.unfit((0,) * 11 + (11,), tuple(range(12)), tuple(range(11, -1, -1)))
        self.check((0, 1, 1), (0, 1, 2), (0, 2, 1), 1)

    def test_by_name_and_nothing_is_changed(self):
        self.exact(gap(rule=(0, 0), one=(0, 1), other=(1, 0)), 1)
        text = gap_text(rule=(0, 0), one=(0, 1), other=(1, 0))
        self.exact(cost((0, 0), (0, 1), text) - cost((0, 0), (1, 0), text), 1)
        for rule in rules_up_to(3):
            for one, other in itertools.product(all_orders(len(rule)), repeat=2):
                for call in (gap, gap_text, pair_gap):
                    self.keeps(call, rule, one, other)
                self.keeps(unlike, one, other)


class PairGap(Case):
    def check(self, rule, one, other):
        """What is told is right, but for the greatest number being the greatest one."""
        told = pair_gap(rule, one, other)
        self.assertIs(type(told), tuple)
        self.assertEqual(len(told), 3)
        n = len(rule)
        if told[0] == "most":
            self.exact(text_error(n, told[2]), None)
            self.exact(told[1], cost(rule, one, told[2]) - cost(rule, other, told[2]))
            return told[1]
        self.exact(told[0], "endless")
        _, ahead, again = told
        self.exact((text_error(n, ahead), text_error(n, again)), (None, None))
        self.assertGreater(len(again), 0)
        here, there = run(rule, one, ahead), run(rule, other, ahead)
        self.exact((run(rule, here, again), run(rule, there, again)), (here, there))
        self.assertGreater(cost(rule, here, again), cost(rule, there, again))
        return None

    def test_all_pairs_of_all_rules_of_one_to_four_places(self):
        for rule in rules_up_to(4):
            letters = range(len(rule))
            numbers = {}
            # What an ask does hangs on places alone, so one first order stands for all.
            for one in all_orders(len(rule))[:1] + all_orders(len(rule))[-1:]:
                for other in all_orders(len(rule)):
                    numbers[one, other] = self.check(rule, one, other)
            for (one, other), number in list(numbers.items()):
                if number is None:
                    continue
                # Nothing gains more: each ask and what can be gained behind it stay within the number.
                self.assertGreaterEqual(number, 0)
                for letter in letters:
                    here, there = run(rule, one, (letter,)), run(rule, other, (letter,))
                    if (here, there) not in numbers:
                        numbers[here, there] = self.check(rule, here, there)
                    self.assertIsNotNone(numbers[here, there])
                    gain = one.index(letter) - other.index(letter)
                    self.assertGreaterEqual(number, gain + numbers[here, there])

    def test_beside_all_short_texts(self):
        for rule in rules_up_to(4):
            n = len(rule)
            costs = all_costs(rule, 7 if n < 4 else 5)
            for one in all_orders(n) if n < 4 else all_orders(4)[::7]:
                for other in costs:
                    told = pair_gap(rule, one, other)
                    if told[0] == "most":
                        greatest = max(more - less for more, less in zip(costs[one], costs[other]))
                        self.assertGreaterEqual(told[1], greatest)
                        if n < 4:
                            self.assertEqual(told[1], greatest)

    def test_what_gap_takes(self):
        for rule in front_rules():
            for one in all_orders(len(rule))[::5]:
                for other in all_out(rule, one):
                    self.exact(pair_gap(rule, one, other)[:2], ("most", gap(rule, one, other)))

    def test_some_orders_are_without_bound_by_each_other_rule(self):
        for rule in rules_up_to(4):
            first = tuple(range(len(rule)))
            told = [pair_gap(rule, first, other)[0] for other in all_out(rule, first)]
            self.assertEqual("endless" in told, not is_front(rule))

    def test_orders_that_do_not_come_out_of_one_another(self):
        self.exact(pair_gap((0, 0, 2), (0, 1, 2), (2, 1, 0))[0], "endless")
        self.exact(pair_gap((0, 1), (1, 0), (0, 1))[0], "endless")
        self.exact(pair_gap((0,), (0,), (0,)), ("most", 0, ()))
        self.exact(pair_gap((0, 1, 2, 3), (3, 2, 1, 0), (3, 2, 1, 0))[:2], ("most", 0))

    def test_too_many_places(self):
        for n in range(5, 13):
            for rule in ((0,) * n, tuple(range(n))):
                self.raises(TooMany(4), pair_gap, rule, tuple(range(n)), tuple(range(n)))
                self.raises(TooMany(4), pair_gap, rule, tuple(range(n)), tuple(range(n))[::-1])
        self.raises(TooMany(4), pair_gap, STAYING, tuple(range(8)), tuple(range(8)))
        for rule in all_rules(4):
            pair_gap(rule, (3, 0, 2, 1), (0, 1, 3, 2))

    def test_by_name(self):
        self.exact(pair_gap(rule=(0, 0), one=(0, 1), other=(1, 0))[:2], ("most", 1))
        self.raises(TooMany(4), pair_gap, rule=(0,) * 5, one=(0, 1, 2, 3, 4), other=(0, 1, 2, 3, 4))
