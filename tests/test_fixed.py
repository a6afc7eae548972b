"""Fixed lists, beside a list in which all letters go to the front."""

import itertools
import random

from forwardlists.coding import cost
from forwardlists.fixed import best_fixed, fixed_cost, is_best, twice
from forwardlists.orders import order_error
from forwardlists.rules import front
from tests.cases import Case, all_orders, some_order, some_text
from tests.sums import short_texts


def counted(order, text):
    """What order costs as a fixed list: the place of each letter of text in it, one after another."""
    return sum(order.index(letter) for letter in text)


def bound(order, text, plain):
    """The bound that plain sets on the cost of text from order."""
    turned = sum(
        (order.index(one) < order.index(other)) != (plain.index(one) < plain.index(other))
        for one, other in itertools.combinations(range(len(order)), 2)
    )
    return 2 * counted(plain, text) + turned


class Examples(Case):
    def test_examples(self):
        self.holds("""
            >>> from forwardlists.fixed import best_fixed, fixed_cost, is_best, twice
            >>> [fixed_cost(order, (2, 4, 2)) for order in ((0, 1, 2), (1, 0, 2), (1, 2, 0), (2, 0, 1))], fixed_cost((0,), (9,))
            ([8, 6, 6, 10], 0)
            >>> [is_best(order, (2, 4, 2)) for order in ((1, 0, 2), (1, 2, 0), (0, 1, 2))], best_fixed((1, 5, 3)), is_best((2, 0, 1), (0, 0, 0))
            ([True, True, False], (1, 2, 0), True)
            >>> text = (1, 1, 2, 0, 2, 1, 1, 0)
            >>> [twice(order, text, other) for order, other in (((0, 1, 2), (1, 0, 2)), ((2, 0, 1), (1, 2, 0)), ((0, 1, 2), (0, 1, 2)))]
            [(10, 13), (10, 14), (10, 16)]
            >>> twice((0, 1, 2), (2, 1, 0, 2, 1, 0), (0, 1, 2)), twice((0, 1), (1, 0, 1), (1, 0)), twice((0, 1), (), (1, 0))
            ((12, 12), (3, 3), (0, 1))
        """)


class FixedCost(Case):
    def test_each_letter_as_often_as_told_in_whatever_order(self):
        chance = random.Random(131)
        for n in range(1, 13):
            for _ in range(20):
                order = some_order(chance, n)
                counts = tuple(chance.randint(0, 9) for _ in range(n))
                text = [letter for letter in range(n) for _ in range(counts[letter])]
                chance.shuffle(text)
                self.exact(fixed_cost(order, counts), counted(order, text))

    def test_great_counts(self):
        self.exact(fixed_cost((1, 0), (10 ** 30, 1)), 10 ** 30)
        self.exact(fixed_cost((0, 1), (10 ** 30, 1)), 1)
        self.exact(fixed_cost(tuple(range(12)), (10 ** 30,) * 12), 66 * 10 ** 30)
        self.exact(fixed_cost(tuple(range(12)), (0,) * 12), 0)

    def test_by_name(self):
        self.exact(fixed_cost(order=(1, 0), counts=(2, 3)), 2)


class BestFixed(Case):
    def check(self, counts):
        orders = all_orders(len(counts))
        costs = {order: sum(at * counts[letter] for at, letter in enumerate(order)) for order in orders}
        best = best_fixed(counts)
        self.exact(order_error(len(counts), best), None)
        self.exact(costs[best], min(costs.values()))
        for order in orders:
            self.exact(is_best(order, counts), costs[order] == costs[best])
            falls = [counts[letter] for letter in order]
            self.exact(is_best(order, counts), falls == sorted(falls, reverse=True))

    def test_beside_all_orders_of_one_to_four_letters(self):
        for n, most in ((1, 5), (2, 5), (3, 4), (4, 2)):
            for counts in itertools.product(range(most + 1), repeat=n):
                self.check(counts)

    def test_beside_all_orders_of_five_letters(self):
        chance = random.Random(132)
        for most in (0, 1, 2, 3, 9, 400, 10 ** 30):
            for _ in range(6):
                self.check(tuple(chance.randint(0, most) for _ in range(5)))

    def test_great_counts(self):
        self.check((10 ** 30, 10 ** 30 - 1, 10 ** 30))
        self.check((0, 10 ** 30, 1, 0))
        self.exact(is_best((0, 1), (10 ** 30 - 1, 10 ** 30)), False)
        self.exact(is_best((1, 0), (10 ** 30 - 1, 10 ** 30)), True)

    def test_up_to_twelve_letters(self):
        chance = random.Random(133)
        for _ in range(200):
            n = chance.randint(1, 12)
            counts = tuple(chance.randint(0, chance.choice((1, 3, 50, 10 ** 30))) for _ in range(n))
            best = best_fixed(counts)
            self.exact(sorted(best), list(range(n)))
            told = [counts[letter] for letter in best]
            self.assertEqual(told, sorted(counts, reverse=True))
            self.exact(is_best(best, counts), True)
            order = some_order(chance, n)
            falls = [counts[letter] for letter in order]
            self.exact(is_best(order, counts), falls == sorted(falls, reverse=True))
            self.assertLessEqual(fixed_cost(best, counts), fixed_cost(order, counts))

    def test_by_name_and_nothing_is_changed(self):
        self.exact(best_fixed(counts=(1, 5, 3)), (1, 2, 0))
        self.exact(is_best(order=(1, 0), counts=(5, 3)), False)
        self.keeps(best_fixed, (1, 5, 3))
        self.keeps(is_best, (1, 0), (5, 3))
        self.keeps(fixed_cost, (1, 0), (5, 3))


class Twice(Case):
    def check(self, order, text, plain):
        told = twice(order, text, plain)
        self.exact(told, (cost(front(len(order)), order, text), bound(order, text, plain)))
        self.assertLessEqual(told[0], told[1])

    def test_short_texts_with_all_orders(self):
        for n, most in ((1, 3), (2, 6), (3, 5)):
            for text in short_texts(n, most):
                for order, plain in itertools.product(all_orders(n), repeat=2):
                    self.check(order, text, plain)

    def test_texts_of_four_letters(self):
        chance = random.Random(134)
        for text in short_texts(4, 4)[::3]:
            for order in all_orders(4)[::5]:
                self.check(order, text, some_order(chance, 4))

    def test_long_texts_of_up_to_twelve_letters(self):
        chance = random.Random(135)
        for n in range(1, 13):
            for length in (0, 1, 12, 100, 400):
                for _ in range(4):
                    self.check(some_order(chance, n), some_text(chance, n, length), some_order(chance, n))

    def test_no_less_than_twice_would_do(self):
        for n in range(2, 13):
            order = tuple(range(n))
            text = order[::-1] * (400 // n)
            told = twice(order, text, order)
            self.exact(told[0], told[1])
            self.exact(told[0], 400 // n * n * (n - 1))

    def test_as_many_more_as_pairs_stand_in_unlike_orders(self):
        for n in range(1, 13):
            order = tuple(range(n))
            self.exact(twice(order, (), order[::-1]), (0, n * (n - 1) // 2))
        # Where the letters come in the order of the fixed list just the unlike pairs are let.
        self.exact(twice((0, 1), (1, 0, 1), (1, 0)), (3, 3))

    def test_by_name_and_nothing_is_changed(self):
        self.exact(twice(order=(0, 1), text=(1, 0, 1), plain=(1, 0)), (3, 3))
        self.keeps(twice, (0, 1, 2), (1, 0, 1), (1, 0, 2))
