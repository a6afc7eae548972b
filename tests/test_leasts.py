"""What texts cost pair by pair, and the least that texts with the same counts cost."""

import itertools
import random

from forwardlists.coding import cost
from forwardlists.errors import TooMany
from forwardlists.fixed import fixed_cost
from forwardlists.leasts import changes, counts_of, late, least_cost, least_text, pairs_table
from forwardlists.orders import text_error
from forwardlists.rules import front
from forwardlists.summing import least_from, summary
from tests.cases import Case, all_orders, some_order, some_text
from tests.sums import short_texts


def counted(n, text):
    """How often each letter stands in text, asked one by one."""
    counts = [0] * n
    for letter in text:
        counts[letter] += 1
    return tuple(counts)


def changed(text, b, c):
    """How often b and c, all others left out, stand behind one another: runs of like letters but the first one."""
    runs = [letter for letter, _ in itertools.groupby(letter for letter in text if letter in {b, c})]
    return max(len(runs) - 1, 0)


def late_pairs(order, text):
    """For how many pairs the letter asked first stands behind the other one, pair by pair."""
    pairs = 0
    for one, other in itertools.combinations(range(len(order)), 2):
        asked_of_both = [letter for letter in text if letter in (one, other)]
        if asked_of_both:
            first = asked_of_both[0]
            left = one + other - first
            pairs += order.index(first) > order.index(left)
    return pairs


def few_letters():
    """All texts of at most five letters, of one to three, from all orders."""
    for n in (1, 2, 3):
        for order in all_orders(n):
            for text in short_texts(n, 5):
                yield n, order, text


def texts_with(counts):
    """All texts with these counts."""
    letters = [letter for letter, count in enumerate(counts) for _ in range(count)]
    return sorted(set(itertools.permutations(letters)))


class Examples(Case):
    def test_examples(self):
        self.holds("""
            >>> from forwardlists.leasts import changes, counts_of, late, least_cost, least_text, pairs_table
            >>> text = (1, 1, 2, 0, 2, 1, 1, 0)
            >>> counts_of(3, text), changes(text, 2, 0), pairs_table(3, text), pairs_table(1, (0, 0)), counts_of(2, ())
            ((2, 4, 2), 3, ((0, 1, 3), (0, 2, 3), (1, 2, 2)), (), (0, 0))
            >>> [late(order, text) for order in ((0, 1, 2), (1, 2, 0), (2, 0, 1))], late((0, 1, 2, 3), (3,))
            ([2, 0, 2], 3)
            >>> from forwardlists.coding import cost
            >>> [cost((0, 0, 0), order, text) for order in ((0, 1, 2), (1, 2, 0), (2, 0, 1))]
            [10, 8, 10]
            >>> least_cost((2, 0, 1), (3, 0, 2)), least_cost((0, 1, 2), (5, 5, 5)), least_cost((1, 2, 0), (0, 0, 4)), least_cost((0, 1, 2), (0, 0, 0))
            (1, 3, 1, 0)
            >>> least_text((2, 0, 1), (3, 0, 2)), cost((0, 0, 0), (0, 1, 2), least_text((0, 1, 2), (5, 5, 5))), least_cost((1, 0), (10 ** 30, 1))
            ((2, 2, 0, 0, 0), 3, 1)
            >>> least_text((0, 1), (200, 201))
            raises TooMany(400)
        """)


class Pairs(Case):
    def check(self, n, order, text):
        self.exact(counts_of(n, text), counted(n, text))
        table = tuple((b, c, changed(text, b, c)) for b in range(n) for c in range(b + 1, n))
        self.exact(pairs_table(n, text), table)
        self.exact(late(order, text), late_pairs(order, text))
        # The cost is the changes of all pairs, together, and what is late.
        told = cost(front(n), order, text)
        self.exact(sum(many for _, _, many in table) + late(order, text), told)
        self.exact(told - late(order, text), least_from(n, summary(n, text)))

    def test_all_texts_of_few_letters_from_all_orders(self):
        for n, order, text in few_letters():
            self.check(n, order, text)

    def test_long_texts_of_up_to_twelve_letters(self):
        chance = random.Random(151)
        for n in range(1, 13):
            for length in (0, 1, 2, 7, 12, 40, 399, 400):
                letters = chance.sample(range(n), chance.randint(1, n))
                self.check(n, some_order(chance, n), some_text(chance, n, length))
                self.check(n, some_order(chance, n), tuple(chance.choice(letters) for _ in range(length)))

    def test_changes_of_two_letters_both_ways(self):
        for text in short_texts(3, 5):
            for b, c in itertools.permutations(range(3), 2):
                self.exact(changes(text, b, c), changed(text, b, c))
        self.exact(changes((0, 1) * 200, 1, 0), 399)
        self.exact(changes((0,) * 400, 1, 0), 0)
        self.exact(changes((2, 3) * 200, 1, 0), 0)
        self.exact(changes((), 0, 11), 0)

    def test_nothing_is_late_in_the_text_s_own_order(self):
        chance = random.Random(152)
        for n in range(1, 13):
            for length in (0, 1, 5, 100):
                text = some_text(chance, n, length)
                own = tuple(dict.fromkeys(text + tuple(range(n))))
                self.exact(late(own, text), 0)
                # Turned about, each letter asked is late for all others that it is asked ahead of.
                many = len(set(text))
                self.exact(late(own[::-1], text), many * (many - 1) // 2 + many * (n - many))

    def test_pairs_come_ascending(self):
        self.exact([row[:2] for row in pairs_table(12, (0,))], list(itertools.combinations(range(12), 2)))
        self.exact(pairs_table(2, ()), ((0, 1, 0),))

    def test_by_name_and_nothing_is_changed(self):
        self.exact(counts_of(n=2, text=(1,)), (0, 1))
        self.exact(changes(text=(0, 1, 2), b=2, c=0), 1)
        self.exact(pairs_table(n=2, text=(1, 0)), ((0, 1, 1),))
        self.exact(late(order=(0, 1), text=(1,)), 1)
        for n, order, text in itertools.islice(few_letters(), 100):
            self.keeps(counts_of, n, text)
            self.keeps(pairs_table, n, text)
            self.keeps(late, order, text)
            self.keeps(changes, text, 0, 1)


class Least(Case):
    def check(self, order, counts):
        """What can be told for all counts; returns the least cost."""
        least = least_cost(order, counts)
        self.exact(least, sum(place for place in range(len(order)) if counts[order[place]] != 0))
        text = least_text(order, counts)
        self.exact(text_error(len(order), text), None)
        self.exact(counted(len(order), text), tuple(counts))
        self.exact(cost(front(len(order)), order, text), least)
        return least

    def test_no_text_with_these_counts_costs_less(self):
        for n, most in ((1, 5), (2, 4), (3, 2)):
            for counts in itertools.product(range(most + 1), repeat=n):
                texts = texts_with(counts)
                for order in all_orders(n):
                    least = min(cost(front(n), order, text) for text in texts)
                    self.exact(self.check(order, counts), least)

    def test_four_and_five_letters(self):
        chance = random.Random(153)
        for n, many in ((4, 7), (5, 6)):
            for _ in range(6):
                counts = counted(n, some_text(chance, n, chance.randint(0, many)))
                order = some_order(chance, n)
                least = min(cost(front(n), order, text) for text in texts_with(counts))
                self.exact(self.check(order, counts), least)

    def test_up_to_twelve_letters(self):
        chance = random.Random(154)
        for n in range(1, 13):
            for most in (0, 1, 2, 33):
                counts = tuple(chance.randint(0, most) for _ in range(n))
                order = some_order(chance, n)
                least = self.check(order, counts)
                letters = list(least_text(order, counts))
                for _ in range(5):
                    chance.shuffle(letters)
                    self.assertGreaterEqual(cost(front(n), order, tuple(letters)), least)
                self.assertLessEqual(least, fixed_cost(order, counts))

    def test_great_counts(self):
        self.exact(least_cost((1, 0), (10 ** 30, 1)), 1)
        self.exact(least_cost((1, 0), (0, 10 ** 30)), 0)
        self.exact(least_cost(tuple(range(12)), (10 ** 30,) * 12), 66)
        self.exact(least_cost((0,), (10 ** 30,)), 0)
        self.raises(TooMany(400), least_text, (1, 0), (10 ** 30, 1))
        self.raises(TooMany(400), least_text, (0,), (10 ** 30,))

    def test_as_many_letters_as_a_text_has_at_most(self):
        self.check((0, 1), (200, 200))
        self.check((0,), (400,))
        self.check(tuple(range(12)), (33,) * 11 + (37,))
        self.raises(TooMany(400), least_text, (0, 1), (201, 200))
        self.raises(TooMany(400), least_text, (0,), (401,))
        self.raises(TooMany(400), least_text, tuple(range(12)), (33,) * 11 + (38,))
        self.exact(least_text((0, 1), (0, 0)), ())

    def test_by_name_and_nothing_is_changed(self):
        self.exact(least_cost(order=(1, 0), counts=(2, 0)), 1)
        self.exact(least_text(order=(1, 0), counts=(2, 0)), (0, 0))
        self.keeps(least_cost, (1, 0), (2, 3))
        self.keeps(least_text, (1, 0), (2, 3))
        self.keeps(least_text, (1, 0), (200, 300))
