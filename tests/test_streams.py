"""Streams: places written by code words, and read back."""

import itertools
import random

from forwardlists.coding import cost, exchange, places_of, under
from forwardlists.errors import BadStream, TooMany
from forwardlists.streams import coded, decoded, places_read, stream
from forwardlists.tables import even_table, is_full, table_of, unary
from tests.cases import Case, all_of_three_places, any_values, rules_up_to, some_order, some_rules, some_text, spoilt

TABLES = {
    1: (("0",), ("1",), ("01",), ("1" * 40,)),
    2: (("0", "1"), ("1", "01"), ("11", "0"), ("0" * 40, "0" * 39 + "1")),
    3: (("0", "10", "110"), ("0", "10", "11"), ("001", "1", "01"), ("1", "000", "01"), ("10", "0" * 40, "11")),
    4: (("0", "10", "110", "1110"), ("00", "01", "10", "11"), ("111", "0", "110", "10"), ("1", "001", "0001", "0000")),
}


def tables_of(n):
    """Some tables of n places."""
    return TABLES.get(n, ()) + (unary(n), even_table(n), table_of(tuple(range(n, 0, -1))))


def told(table, value):
    """What places_read has to tell of a string, read sign by sign: places or an error."""
    places, word, begin = [], "", 0
    for at, sign in enumerate(value):
        word += sign
        if word in table:
            places.append(table.index(word))
            word, begin = "", at + 1
        elif not any(other[:len(word)] == word for other in table):
            return BadStream(begin)
    if word:
        return BadStream(len(value))
    return TooMany(400) if len(places) > 400 else tuple(places)


class Examples(Case):
    def test_examples(self):
        self.holds("""
            >>> slow = (0, 0, 1)
            >>> from forwardlists.streams import coded, decoded, places_read, stream
            >>> words = ("0", "10", "110")
            >>> stream(words, (1, 2, 0, 1)), stream(words, ()), places_read(words, "10110010"), places_read(words, "")
            ('10110010', '', (1, 2, 0, 1), ())
            >>> coded(slow, (2, 0, 1), words, (0, 1, 1, 0)), decoded(slow, (2, 0, 1), words, "101101010"), decoded(slow, (0, 1, 2), words, "101101010")
            ('101101010', (0, 1, 1, 0), (1, 2, 2, 1))
            >>> places_read(words, "10111")
            raises BadStream(2)
            >>> places_read(words, "1011")
            raises BadStream(4)
            >>> places_read(words, "10 0")
            raises BadStream(2)
            >>> places_read(words, "10x")
            raises BadStream(2)
            >>> places_read(words, None)
            raises BadStream(0)
            >>> places_read(words, "0" * 401)
            raises TooMany(400)
        """)


class Stream(Case):
    def test_words_one_behind_another(self):
        for n, tables in TABLES.items():
            for table in tables:
                for many in range(5):
                    for places in itertools.product(range(n), repeat=many):
                        self.exact(stream(table, places), "".join(table[place] for place in places))

    def test_unlike_rows_have_unlike_streams(self):
        for n, tables in TABLES.items():
            rows = [row for many in range(5) for row in itertools.product(range(n), repeat=many)]
            for table in tables:
                self.assertEqual(len({stream(table, row) for row in rows}), len(rows))

    def test_400_places(self):
        chance = random.Random(41)
        for n in range(1, 13):
            for table in tables_of(n):
                places = some_text(chance, n, 400)
                self.exact(stream(table, places), "".join(table[place] for place in places))
                self.exact(places_read(table, stream(table, places)), places)
        self.exact(len(stream(("0" * 40,), (0,) * 400)), 16000)

    def test_unary_has_the_cost_and_how_many_letters_there_are(self):
        chance = random.Random(42)
        for rule in rules_up_to(4) + some_rules(40, 42):
            n = len(rule)
            order, text = some_order(chance, n), some_text(chance, n, chance.randint(0, 400))
            self.exact(len(coded(rule, order, unary(n), text)), cost(rule, order, text) + len(text))

    def test_by_name(self):
        self.exact(stream(table=("1", "0"), places=(0, 1, 1)), "100")


class PlacesRead(Case):
    def check(self, table, value):
        wanted = told(table, value)
        if isinstance(wanted, tuple):
            self.exact(places_read(table, value), wanted)
            self.exact(stream(table, wanted), value)
        else:
            self.raises(wanted, places_read, table, value)

    def test_all_short_strings(self):
        for n, tables in TABLES.items():
            for table in tables:
                for many in range(9):
                    for signs in itertools.product("01", repeat=many):
                        self.check(table, "".join(signs))

    def test_streams_with_other_signs_cut_short_or_spoilt(self):
        chance = random.Random(43)
        for n in range(1, 13):
            for table in tables_of(n):
                value = stream(table, some_text(chance, n, 6))
                for other in spoilt(value, "01 2x\n"):
                    self.check(table, other)

    def test_what_ends_within_a_word(self):
        words = ("0" * 40, "1" + "0" * 38, "1" * 40)
        for place, word in enumerate(words):
            for many in range(1, len(word)):
                self.raises(BadStream(len(word) + many), places_read, words, word + word[:many])
            self.exact(places_read(words, word + word), (place, place))
        self.raises(BadStream(40), places_read, words, "0" * 40 + "10" * 20)
        self.raises(BadStream(40), places_read, words, "0" * 40 + "10" * 2)
        self.raises(BadStream(42), places_read, words, "0" * 40 + "10")

    def test_where_no_word_begins(self):
        for ahead in range(5):
            self.raises(BadStream(ahead), places_read, ("0", "10"), "0" * ahead + "11")
            self.raises(BadStream(ahead), places_read, ("0", "10"), "0" * ahead + "11" + "0" * 20)
            self.raises(BadStream(2 * ahead), places_read, ("0", "10"), "10" * ahead + "1 0")
            self.raises(BadStream(2 * ahead), places_read, ("0", "10"), "10" * ahead + "1\n")
            self.raises(BadStream(2 * ahead), places_read, ("0", "10"), "10" * ahead + " ")

    def test_any_value(self):
        for table in (("0",), ("1", "0"), ("0", "10", "110"), unary(12)):
            for value in any_values():
                if not isinstance(value, str):
                    self.raises(BadStream(0), places_read, table, value)
                else:
                    self.check(table, value)
                self.keeps(places_read, table, value)
        self.raises(BadStream(0), places_read, ("0", "1"), ("0", "1"))
        self.raises(BadStream(0), places_read, ("0", "1"), b"01")

    def test_as_many_places_as_can_be_and_one_more(self):
        for n in range(1, 13):
            for table in tables_of(n):
                for place in (0, n - 1):
                    self.exact(places_read(table, table[place] * 400), (place,) * 400)
                    self.raises(TooMany(400), places_read, table, table[place] * 401)
        self.raises(TooMany(400), places_read, ("0", "1"), "01" * 10000)

    def test_what_cannot_be_read_is_told_of_before_what_is_too_long(self):
        words = ("0", "10", "110")
        self.raises(BadStream(401), places_read, words, "0" * 401 + "111")
        self.raises(BadStream(402), places_read, words, "0" * 401 + "1")
        self.raises(BadStream(403), places_read, words, "0" * 401 + "11")
        self.raises(BadStream(500), places_read, words, "0" * 500 + "x0")
        self.raises(BadStream(401), places_read, words, "0" * 400 + "1")
        self.raises(BadStream(400), places_read, words, "0" * 400 + "1x")
        self.raises(TooMany(400), places_read, words, "0" * 400 + "110")

    def test_by_a_full_table_each_string_is_read_or_ends_within_a_word(self):
        chance = random.Random(44)
        for n in range(2, 13):
            table = unary(n)[:-1] + ("1" * (n - 1),)
            for full in (table, table[::-1], even_table(n)):
                self.exact(is_full(full), True)
                for length in list(range(20)) + [399, 400]:
                    value = "".join(chance.choice("01") for _ in range(length))
                    self.check(full, value)
                    try:
                        places_read(full, value)
                    except BadStream as error:
                        self.assertEqual(error.place, length)

    def test_by_name(self):
        self.exact(places_read(table=("1", "0"), value="100"), (0, 1, 1))
        self.raises(BadStream(1), places_read, table=("11", "0"), value="0" + "x")


class Coded(Case):
    def test_coded_and_decoded_for_all_rules_of_one_to_three_places(self):
        for n in (1, 2):
            for rule in [rule for rule in rules_up_to(2) if len(rule) == n]:
                for order in itertools.permutations(range(n)):
                    for many in range(6):
                        for text in itertools.product(range(n), repeat=many):
                            self.check(rule, order, text)
        for rule, order, text in all_of_three_places(4):
            self.check(rule, order, text)

    def check(self, rule, order, text):
        for table in TABLES[len(rule)]:
            value = coded(rule, order, table, text)
            self.exact(value, "".join(table[place] for place in places_of(rule, order, text)))
            self.exact(decoded(rule, order, table, value), text)

    def test_long_texts_and_another_list(self):
        chance = random.Random(45)
        for rule in rules_up_to(4) + some_rules(60, 45):
            n = len(rule)
            one, other, text = some_order(chance, n), some_order(chance, n), some_text(chance, n, 400)
            for table in tables_of(n):
                value = coded(rule, one, table, text)
                self.exact(decoded(rule, one, table, value), text)
                self.exact(decoded(rule, other, table, value), under(text, exchange(one, other)))

    def test_decoded_refuses_what_places_read_refuses(self):
        for rule, order in (((0, 0, 1), (2, 0, 1)), ((0, 1, 2), (0, 1, 2)), ((0, 0, 0), (1, 2, 0))):
            for value in any_values() + ["10111", "1011", "10 0", "0" * 400, "0" * 401 + "111", "0" * 401 + "11"]:
                wanted = told(("0", "10", "110"), value) if isinstance(value, str) else BadStream(0)
                if isinstance(wanted, tuple):
                    decoded(rule, order, ("0", "10", "110"), value)
                else:
                    self.raises(wanted, decoded, rule, order, ("0", "10", "110"), value)
                self.keeps(decoded, rule, order, ("0", "10", "110"), value)

    def test_by_name(self):
        self.exact(coded(rule=(0, 0), order=(1, 0), table=("1", "01"), text=(0, 0, 1)), "01101")
        self.exact(decoded(rule=(0, 0), order=(1, 0), table=("1", "01"), value="01101"), (0, 0, 1))
