"""The coder and the decoder."""

import itertools
import random

from forwardlists.asking import run
from forwardlists.coding import cost, exchange, places_of, text_behind, under
from tests.cases import Case, all_of_three_places, all_orders, all_rules, rules_up_to
from tests.cases import some_order, some_rules, some_text


def looked_up(rule, order, text):
    """The places of text, each looked up in the list behind all asks ahead of it."""
    return tuple(run(rule, order, text[:at]).index(letter) for at, letter in enumerate(text))


def ends(seed, length):
    """Rules, with two orders and a text, or places, of this length for each."""
    chance = random.Random(seed)
    for rule in rules_up_to(4) + some_rules(60, seed):
        n = len(rule)
        yield rule, some_order(chance, n), some_order(chance, n), some_text(chance, n, length)


class Examples(Case):
    def test_examples(self):
        self.holds("""
            >>> from forwardlists.coding import cost, exchange, places_of, text_behind, under
            >>> ahead, slow = (0, 0, 0), (0, 0, 1)
            >>> places_of(ahead, (2, 0, 1), (0, 1, 1, 0)), places_of(slow, (2, 0, 1), (0, 1, 1, 0))
            ((1, 2, 0, 1), (1, 2, 1, 1))
            >>> text_behind(ahead, (2, 0, 1), (1, 2, 0, 1)), text_behind(slow, (0, 1, 2), (1, 2, 1, 1)), text_behind(ahead, (0, 1, 2), ())
            ((0, 1, 1, 0), (1, 2, 2, 1), ())
            >>> cost(ahead, (2, 0, 1), (0, 1, 1, 0)), cost(slow, (2, 0, 1), (0, 1, 1, 0)), cost(slow, (2, 0, 1), ())
            (4, 5, 0)
            >>> exchange((2, 0, 1), (0, 1, 2)), exchange((0, 1, 2), (2, 0, 1)), exchange((1, 0), (1, 0))
            ((1, 2, 0), (2, 0, 1), (0, 1))
            >>> under((0, 1, 1, 0), (1, 2, 0)), under((), (0,))
            ((1, 2, 2, 1), ())
        """)


class Coder(Case):
    def test_all_rules_of_three_places_with_all_orders_and_short_texts(self):
        for rule, order, text in all_of_three_places(3):
            self.check(rule, order, text)

    def test_longer_texts(self):
        for rule, order, _, text in ends(15, 40):
            self.check(rule, order, text)

    def check(self, rule, order, text):
        wanted = looked_up(rule, order, text)
        self.exact(places_of(rule, order, text), wanted)
        self.exact(cost(rule, order, text), sum(wanted))
        self.exact(text_behind(rule, order, wanted), text)

    def test_the_empty_text(self):
        for rule in rules_up_to(4):
            for order in all_orders(len(rule)):
                self.check(rule, order, ())

    def test_texts_of_400_letters(self):
        for rule, order, _, text in ends(16, 400):
            places = places_of(rule, order, text)
            self.assertEqual(len(places), 400)
            self.exact(text_behind(rule, order, places), text)
        self.exact(cost((0,) * 12, tuple(range(12)), (11,) * 400), 11)
        self.exact(cost(tuple(range(12)), tuple(range(12)), (11,) * 400), 4400)

    def test_every_row_of_places_is_told_of_by_just_one_text(self):
        for rule in all_rules(3):
            rows = list(itertools.product(range(3), repeat=4))
            texts = [text_behind(rule, (1, 2, 0), places) for places in rows]
            self.assertEqual([places_of(rule, (1, 2, 0), text) for text in texts], rows)
            self.assertEqual(len(set(texts)), len(rows))
        for rule, order, _, places in ends(17, 400):
            self.exact(places_of(rule, order, text_behind(rule, order, places)), places)

    def test_cost_is_0_exactly_if_each_letter_stands_in_front(self):
        for rule in all_rules(3):
            for text in itertools.product(range(3), repeat=3):
                self.exact(cost(rule, (1, 0, 2), text) == 0, text == (1, 1, 1))

    def test_by_name(self):
        self.exact(places_of(rule=(0, 0), order=(1, 0), text=(0, 1)), (1, 1))
        self.exact(text_behind(rule=(0, 0), order=(1, 0), places=(1, 1)), (0, 1))
        self.exact(cost(rule=(0, 0), order=(1, 0), text=(0, 1)), 2)


class Exchange(Case):
    def test_a_letter_is_led_to_the_one_at_its_place(self):
        for n in range(1, 5):
            for one in all_orders(n):
                for other in all_orders(n):
                    swap = exchange(one, other)
                    self.exact(swap, tuple(dict(zip(one, other))[letter] for letter in range(n)))
                    self.exact(under(one, swap), other)

    def test_under_exchanges_each_letter(self):
        for swap in all_orders(4):
            for text in itertools.product(range(4), repeat=3):
                self.exact(under(text, swap), (swap[text[0]], swap[text[1]], swap[text[2]]))
            self.exact(under((), swap), ())

    def test_a_decoder_with_another_list_reads_under_one_exchange(self):
        for rule, one, other, text in ends(18, 60):
            swap = exchange(one, other)
            read = text_behind(rule, other, places_of(rule, one, text))
            self.exact(read, under(text, swap))
            for at in range(0, 61, 6):
                self.exact(run(rule, other, read[:at]), under(run(rule, one, text[:at]), swap))

    def test_by_name(self):
        self.exact(exchange(one=(2, 0, 1), other=(0, 1, 2)), (1, 2, 0))
        self.exact(under(text=(0, 0, 1), swap=(1, 0)), (1, 1, 0))
