"""Alike texts: those that cost the same from every order, whatever comes behind."""

import itertools
import random

from forwardlists.alike import alike, parted
from forwardlists.asking import run
from forwardlists.coding import cost
from forwardlists.orders import order_error, text_error
from forwardlists.rules import front
from forwardlists.summing import summary_error
from tests.cases import Case, all_orders, some_order, some_text
from tests.sums import fewest_turns, short_texts, some_sums, summed, text_with


def told_from_all(n, text):
    """What text costs from all orders, and where it leads them."""
    return tuple((cost(front(n), order, text), run(front(n), order, text)) for order in all_orders(n))


class Examples(Case):
    def test_examples(self):
        self.holds("""
            >>> from forwardlists.summing import summary, whole
            >>> from forwardlists.alike import alike, parted
            >>> alike(3, (1, 2, 1, 2, 1, 2, 1), (1, 2, 0, 2, 1)), alike(4, (1, 2, 1, 2, 1, 2, 1), (1, 2, 0, 2, 1)), alike(3, (1,), (1, 1)), alike(3, (), (1,)), alike(1, (), (0, 0))
            (True, False, True, False, True)
            >>> from forwardlists.coding import cost
            >>> order, more = parted(3, (1, 2), (2, 1))
            >>> parted(3, (1,), (1, 1)), cost((0, 0, 0), order, (1, 2) + more) == cost((0, 0, 0), order, (2, 1) + more)
            (None, False)
        """)


class Alike(Case):
    def check(self, n, one, other, wanted):
        self.exact(alike(n, one, other), wanted)
        told = parted(n, one, other)
        if wanted:
            self.exact(told, None)
            return
        self.assertEqual((type(told), len(told)), (tuple, 2))
        order, more = told
        self.exact((order_error(n, order), text_error(n, more)), (None, None))
        self.assertNotEqual(cost(front(n), order, one + more), cost(front(n), order, other + more))

    def test_all_pairs_of_short_texts(self):
        for n, most in ((1, 3), (2, 5), (3, 4), (4, 3)):
            told = {text: told_from_all(n, text) for text in short_texts(n, most)}
            for one, other in itertools.product(told, repeat=2):
                self.check(n, one, other, told[one] == told[other])

    def test_all_texts_of_five_letters_of_three_beside_some(self):
        chance = random.Random(121)
        told = {text: told_from_all(3, text) for text in short_texts(3, 6)}
        some = chance.sample(list(told), 60)
        found = 0
        for one in some:
            for other in told:
                self.assertEqual(alike(3, one, other), told[one] == told[other])
                found += told[one] == told[other]
            for other in chance.sample(list(told), 40):
                self.check(3, one, other, told[one] == told[other])
        self.assertGreater(found, len(some))

    def test_with_every_short_text_behind_and_ahead(self):
        for n, one, other in (
            (3, (1, 2, 1, 2, 1, 2, 1), (1, 2, 0, 2, 1)), (2, (), (0, 0)), (3, (0, 0, 1), (0, 1, 1)), (2, (1,), (1, 0, 1)),
        ):
            same = alike(n, one, other)
            for more in short_texts(n, 4):
                costs = [
                    (cost(front(n), order, one + more), cost(front(n), order, other + more)) for order in all_orders(n)
                ]
                if same:
                    self.assertTrue(all(here == there for here, there in costs))
                    self.check(n, one + more, other + more, True)
                    self.check(n, more + one, more + other, True)

    def test_letters_asked_twice_running(self):
        chance = random.Random(122)
        for n in range(1, 13):
            text = some_text(chance, n, 150)
            doubled = tuple(letter for letter in text for _ in range(chance.randint(1, 2)))
            self.check(n, text, doubled, True)
            self.check(n, doubled, text, True)

    def test_texts_with_the_same_summary(self):
        chance = random.Random(123)
        for _ in range(60):
            n = chance.randint(1, 12)
            text = some_text(chance, n, chance.randint(0, 20))
            self.check(n, text, text_with(summed(text)), True)

    def test_all_letters_but_one(self):
        chance = random.Random(127)
        found = 0
        for _ in range(200):
            n = chance.randint(2, 12)
            firsts = tuple(chance.sample(range(n), n - 1))
            lasts = tuple(chance.sample(firsts, n - 1))
            sums = (fewest_turns(firsts, lasts) + (2 * chance.randint(0, 20) if n > 2 else 0), firsts, lasts)
            left = tuple(letter for letter in range(n) if letter not in firsts)
            # The letter that is not asked is then as if it were asked ahead of all others, and nowhere else.
            full = (sums[0] - n + 1, firsts + left, left + lasts)
            if summary_error(n, full) is None:
                found += 1
                self.check(n, text_with(sums), text_with(full), True)
                self.check(n, text_with(full), text_with(sums), True)
                self.check(n + 1, text_with(full), text_with(sums), False)
            self.check(n, text_with(sums), text_with(sums) + left, False)
            self.check(n, text_with(sums), left + text_with(sums), False)
        self.assertGreater(found, 20)

    def test_unlike_in_turns_alone(self):
        chance = random.Random(124)
        for _ in range(200):
            n = chance.randint(2, 12)
            turns, firsts, lasts = some_sums(chance, n)
            if len(firsts) > 1:
                self.check(n, text_with((turns, firsts, lasts)), text_with((turns + 2, firsts, lasts)), False)

    def test_unlike_in_what_is_behind_alone(self):
        chance = random.Random(128)
        found = 0
        for _ in range(200):
            n = chance.randint(2, 12)
            firsts = tuple(chance.sample(range(n), chance.randint(2, n)))
            rows = [tuple(chance.sample(firsts, len(firsts))) for _ in range(2)]
            fewest = [fewest_turns(firsts, lasts) for lasts in rows]
            if rows[0] == rows[1] or (fewest[0] - fewest[1]) % 2:
                continue
            found += 1
            one, other = [text_with((max(fewest), firsts, lasts)) for lasts in rows]
            order = some_order(chance, n)
            self.exact(cost(front(n), order, one), cost(front(n), order, other))
            self.check(n, one, other, False)
        self.assertGreater(found, 50)

    def test_long_texts_of_many_letters(self):
        chance = random.Random(125)
        for n in range(2, 13):
            one, other = some_text(chance, n, 400), some_text(chance, n, 400)
            self.check(n, one, one, True)
            self.check(n, one, other, summed(one) == summed(other))
            self.check(n, one, one[:-1], one[-1] == one[-2])
            self.check(n, one, (), False)

    def test_one_letter(self):
        for one, other in itertools.product(((), (0,), (0, 0), (0,) * 400), repeat=2):
            self.check(1, one, other, True)

    def test_nothing_asked_and_one_letter_asked(self):
        for n in range(2, 13):
            for letter in range(n):
                self.check(n, (), (letter,), False)
                self.check(n, (letter,), (), False)
                self.check(n, (letter,), ((letter + 1) % n,), False)

    def test_some_orders_are_told_for_all_pairs(self):
        chance = random.Random(126)
        for _ in range(150):
            n = chance.randint(2, 12)
            one, other = some_text(chance, n, chance.randint(0, 15)), some_text(chance, n, chance.randint(0, 15))
            same = alike(n, one, other)
            for _ in range(10):
                order = some_order(chance, n)
                if same:
                    self.assertEqual(cost(front(n), order, one), cost(front(n), order, other))
            self.check(n, one, other, same)

    def test_by_name_and_nothing_is_changed(self):
        self.exact(alike(n=2, one=(0,), other=(0, 0)), True)
        self.exact(parted(n=2, one=(0,), other=(0, 0)), None)
        for one, other in itertools.product(short_texts(2, 2), repeat=2):
            self.keeps(alike, 2, one, other)
            self.keeps(parted, 2, one, other)
