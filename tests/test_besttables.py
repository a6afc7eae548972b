"""Best tables: as few bits as any table takes."""

import functools
import itertools
import random
from fractions import Fraction

from forwardlists.besttables import best_error, best_for, best_table, bits
from forwardlists.coding import places_of
from forwardlists.tables import even_table, table_error, table_of, unary
from tests.cases import Case, any_values, rules_up_to, some_order, some_rules, some_text


@functools.cache
def all_lengths(n, longest):
    """All rows of n lengths of words of some table, up to longest bits."""
    return [
        lengths for lengths in itertools.product(range(1, longest + 1), repeat=n)
        if sum(Fraction(1, 2 ** length) for length in lengths) <= 1
    ]


def fewest_of_all(counts, longest):
    """The fewest bits of all tables whose words have at most longest bits."""
    return min(
        sum(length * count for length, count in zip(lengths, counts)) for lengths in all_lengths(len(counts), longest)
    )


def fewest_by_levels(counts):
    """The fewest bits: level by level, some of the free ends become words, all others two ends each."""
    falling = sorted(counts, reverse=True)

    @functools.cache
    def rest(given, free):
        left = len(falling) - given
        if left == 0:
            return 0
        if free == 0:
            return 10 ** 9
        return sum(falling[given:]) + min(
            rest(given + many, min(2 * (free - many), len(falling))) for many in range(min(free, left) + 1)
            if many > 0 or free < left
        )

    return rest(0, 2)


def some_counts(chance):
    """Counts of up to twelve places, small ones and great ones."""
    most = chance.choice((1, 2, 5, 40, 400))
    return tuple(chance.randint(0, most) for _ in range(chance.randint(1, 12)))


class Examples(Case):
    def test_examples(self):
        self.holds("""
            >>> slow = (0, 0, 1)
            >>> from forwardlists.tables import unary
            >>> from forwardlists.besttables import best_error, best_for, best_table, bits
            >>> bits(("0", "10", "11"), (3, 2, 1)), bits(unary(3), (0, 0, 5)), bits(("0",), (7,))
            (9, 15, 7)
            >>> bits(best_table((5, 1, 1, 1)), (5, 1, 1, 1)), bits(best_table((1, 1, 1, 1)), (1, 1, 1, 1)), bits(best_table((0, 0, 4)), (0, 0, 4)), best_table((3,)) in (("0",), ("1",))
            (13, 8, 4, True)
            >>> [best_error((5, 1, 1, 1), value) for value in (("0", "10", "110", "111"), ("1", "000", "001", "01"), ("00", "01", "10", "11"), unary(4), ("0", "1"), ("0", "1", "11", "00"))]
            [None, None, 'bits', 'bits', 'form', ('begins', 0, 3)]
            >>> bits(best_for(slow, (2, 0, 1), (0, 1, 1, 0)), (0, 3, 1))
            5
        """)


class Bits(Case):
    def test_each_place_as_often_as_told(self):
        chance = random.Random(51)
        for n in range(1, 13):
            for table in (unary(n), even_table(n), table_of((40,) * n)):
                counts = tuple(chance.randint(0, 400) for _ in range(n))
                told = "".join(word * count for word, count in zip(table, counts))
                self.exact(bits(table, counts), len(told))
                self.exact(bits(table, (0,) * n), 0)

    def test_by_name(self):
        self.exact(bits(table=("0", "10"), counts=(2, 3)), 8)


class BestTable(Case):
    def check(self, counts, fewest):
        table = best_table(counts)
        self.exact(table_error(len(counts), table), None)
        self.exact(sum(len(word) * count for word, count in zip(table, counts)), fewest)
        self.exact(best_error(counts, table), None)
        for word, count in zip(table, counts):
            for other, further in zip(table, counts):
                self.assertFalse(count > further and len(word) > len(other))

    def test_few_places_beside_all_lengths_of_words(self):
        for n, most in ((1, 9), (2, 6), (3, 5), (4, 3)):
            for counts in itertools.product(range(most + 1), repeat=n):
                self.check(counts, fewest_of_all(counts, 5))

    def test_five_places_beside_all_lengths_of_words(self):
        chance = random.Random(52)
        rows = [tuple(chance.randint(0, most) for _ in range(5)) for most in (1, 2, 4, 9, 400) for _ in range(6)]
        for counts in rows + [(1, 1, 2, 3, 5), (0, 0, 0, 0, 0), (0, 0, 0, 0, 1), (16, 8, 4, 2, 1)]:
            self.check(counts, fewest_of_all(counts, 5))

    def test_few_places_beside_longer_words(self):
        for counts in itertools.product((0, 1, 2, 7), repeat=3):
            self.check(counts, fewest_of_all(counts, 8))

    def test_up_to_twelve_places(self):
        chance = random.Random(53)
        for _ in range(400):
            counts = some_counts(chance)
            self.check(counts, fewest_by_levels(counts))

    def test_counts_that_take_words_of_all_lengths(self):
        rising = (1, 1, 2, 3, 5, 8, 13, 21, 34, 55, 89, 144)
        for n in range(1, 13):
            self.check(rising[:n], fewest_by_levels(rising[:n]))
            self.check(rising[:n][::-1], fewest_by_levels(rising[:n]))
        self.exact(sorted(len(word) for word in best_table(rising)), [1, 2, 3, 4, 5, 6, 7, 8, 9, 10, 11, 11])

    def test_places_that_are_never_told(self):
        for n in range(1, 13):
            self.check((0,) * n, 0)
            for place in range(n):
                self.check((0,) * place + (400,) + (0,) * (n - place - 1), 400)
        self.check((0, 0, 3, 3), 3 + 6)

    def test_one_place(self):
        for count in (0, 1, 400):
            self.assertIn(best_table((count,)), (("0",), ("1",)))

    def test_great_counts(self):
        self.check((400,) * 12, 400 * (4 * 3 + 8 * 4))
        self.check((400,) * 8, 400 * 8 * 3)

    def test_by_name(self):
        self.exact(sorted(best_table(counts=(1, 1))), ["0", "1"])


class BestError(Case):
    def test_any_value(self):
        for counts in ((0,), (3,), (1, 0), (5, 1, 1), (400,) * 12):
            for value in any_values():
                wanted = table_error(len(counts), value)
                self.assertIsNotNone(wanted if value != ("0",) and value != ("0", "1") else 0)
                if wanted is not None:
                    self.exact(best_error(counts, value), wanted)
                self.keeps(best_error, counts, value)
        self.exact(best_error((3,), ("0",)), None)
        self.exact(best_error((1, 0), ("0", "1")), None)

    def test_all_tables_of_few_short_words(self):
        words = [format(number, "b")[1:] for number in range(2, 16)]
        for counts in ((1, 2), (2, 2), (0, 3), (1, 1, 1), (4, 1, 2), (0, 0, 3), (0, 0, 0)):
            for value in itertools.product(words, repeat=len(counts)):
                wanted = table_error(len(counts), value)
                if wanted is None:
                    told = sum(len(word) * count for word, count in zip(value, counts))
                    wanted = None if told == fewest_of_all(counts, 5) else "bits"
                self.exact(best_error(counts, value), wanted)

    def test_what_is_no_table_is_told_of_first(self):
        self.exact(best_error((5, 1, 1), ("00", "01", "0")), ("begins", 2, 0))
        self.exact(best_error((5, 1, 1), ("000", "01", "")), ("word", 2))
        self.exact(best_error((5, 1, 1), ["000", "01", "1"]), "form")
        self.exact(best_error((5, 1, 1), ("000", "01", "1")), "bits")
        self.exact(best_error((1, 5, 1), ("000", "01", "1")), "bits")
        self.exact(best_error((1, 1, 5), ("000", "01", "1")), "bits")
        self.exact(best_error((0, 1, 5), ("000", "01", "1")), None)
        self.exact(best_error((0, 1, 5), ("01", "00", "1")), None)
        self.exact(best_error((1, 1, 5), ("00", "01", "1")), None)

    def test_one_bit_too_many(self):
        self.exact(best_error((1,), ("00",)), "bits")
        self.exact(best_error((0,), ("0" * 40,)), None)
        self.exact(best_error((0,), ("0" * 41,)), ("word", 0))
        self.exact(best_error((0, 0), ("0" * 40, "1" * 40)), None)
        self.exact(best_error((1, 0), ("0", "1" * 40)), None)
        self.exact(best_error((1, 0), ("00", "1")), "bits")
        self.exact(best_error((400, 400), ("0", "10")), "bits")

    def test_by_name(self):
        self.exact(best_error(counts=(1, 1), value=("0", "1")), None)


class BestFor(Case):
    def test_fewest_bits_for_the_places_of_a_text(self):
        chance = random.Random(54)
        for rule in rules_up_to(4) + some_rules(60, 54):
            n = len(rule)
            order = some_order(chance, n)
            for length in (0, 1, 7, 400):
                text = some_text(chance, n, length)
                places = places_of(rule, order, text)
                counts = tuple(places.count(place) for place in range(n))
                table = best_for(rule, order, text)
                self.exact(table_error(n, table), None)
                self.exact(bits(table, counts), fewest_by_levels(counts))

    def test_by_name(self):
        self.exact(len(best_for(rule=(0, 0, 0), order=(1, 0, 2), text=(2, 1, 0, 2))[2]), 1)
