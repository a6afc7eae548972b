"""Tables of code words."""

import itertools
import random
from fractions import Fraction

from forwardlists.errors import Unfit
from forwardlists.tables import even_table, is_full, table_error, table_of, unary
from tests.cases import Case, any_values, some_text


def fault(n, value):
    """What is wrong with value as a table, by the words of the document."""
    if type(value) is not tuple or len(value) != n:
        return "form"
    for place, word in enumerate(value):
        if type(word) is not str or len(word) not in range(1, 41) or not set(word) <= {"0", "1"}:
            return ("word", place)
    for place, other in itertools.product(range(n), repeat=2):
        if place != other and value[other][:len(value[place])] == value[place]:
            return ("begins", place, other)
    return None


def share(lengths):
    """The sum over all lengths of 1 / 2 ** length."""
    return sum(Fraction(1, 2 ** length) for length in lengths)


def words_of(length):
    """All words of a length, ascending."""
    return ["".join(signs) for signs in itertools.product("01", repeat=length)]


def given_out(lengths):
    """The table of these lengths by going through all words, None if there is none."""
    table = [None] * len(lengths)
    given = []
    for place in sorted(range(len(lengths)), key=lambda at: lengths[at]):
        fit = [
            word for word in words_of(lengths[place])
            if all(not word.startswith(other) and word > other for other in given)
        ]
        if not fit:
            return None
        given.append(fit[0])
        table[place] = fit[0]
    return tuple(table)


def small_tables(longest, most):
    """All tables of at most `most` places whose words have at most `longest` bits."""
    words = [word for length in range(1, longest + 1) for word in words_of(length)]
    for n in range(1, most + 1):
        for table in itertools.product(words, repeat=n):
            if fault(n, table) is None:
                yield table


class Examples(Case):
    def test_examples(self):
        self.holds("""
            >>> from forwardlists.tables import even_table, is_full, table_error, table_of, unary
            >>> [table_error(3, value) for value in (("0", "10", "11"), ("1", "01"), ["0", "10", "11"], ("0", "1x", ""), ("0", "10", ""), ("10", "1", "0"), ("0", "0", "1"), ("0", "11", "1" * 41))]
            [None, 'form', 'form', ('word', 1), ('word', 2), ('begins', 1, 0), ('begins', 0, 1), ('word', 2)]
            >>> unary(3), even_table(1), even_table(2), even_table(3), even_table(5)
            (('0', '10', '110'), ('0',), ('0', '1'), ('0', '10', '11'), ('00', '01', '10', '110', '111'))
            >>> is_full(unary(3)), is_full(even_table(3)), is_full(("1", "00", "010")), is_full(("1", "00", "01"))
            (False, True, False, True)
            >>> table_of((2, 1, 3)), table_of((3, 3, 1, 2)), table_of((2, 2, 2))
            (('10', '0', '110'), ('110', '111', '0', '10'), ('00', '01', '10'))
            >>> table_of((1, 2, 2, 3))
            raises Unfit()
        """)


class TableError(Case):
    def test_any_value(self):
        for n in range(1, 13):
            for value in any_values():
                self.exact(table_error(n, value), fault(n, value))
                self.keeps(table_error, n, value)

    def test_any_value_as_a_word(self):
        for word in any_values():
            for value in ((word, "0"), ("0", word), ("1", word)):
                self.exact(table_error(2, value), fault(2, value))
                self.keeps(table_error, 2, value)

    def test_all_small_values(self):
        words = ("", "0", "1", "00", "01", "10", "011", "x", "0 1", "0\n", None, True, 1, ("0",), "0" * 40, "0" * 41)
        for n in range(1, 4):
            for value in itertools.product(words, repeat=n):
                self.exact(table_error(n, value), fault(n, value))

    def test_what_is_no_tuple_of_n_items(self):
        for value in (None, "0", ["0"], {"0": 0}, (), ("0", "1"), 1):
            self.exact(table_error(1, value), "form")
        for n in range(1, 13):
            self.exact(table_error(n, unary(n)), None)
            self.exact(table_error(n, unary(n)[1:]), "form")
            self.exact(table_error(n, unary(n) + ("1" * n,)), "form")

    def test_as_many_signs_as_can_be_and_one_more(self):
        self.exact(table_error(1, ("1" * 40,)), None)
        self.exact(table_error(1, ("1" * 41,)), ("word", 0))
        self.exact(table_error(2, ("1" * 40, "1" * 39 + "0")), None)
        self.exact(table_error(2, ("1" * 40, "1" * 40)), ("begins", 0, 1))
        self.exact(table_error(2, ("1" * 39, "1" * 40)), ("begins", 0, 1))
        self.exact(table_error(2, ("1" * 40, "1" * 39)), ("begins", 1, 0))

    def test_what_is_told_first(self):
        self.exact(table_error(3, ("", "")), "form")
        self.exact(table_error(3, ("0", "0", "2")), ("word", 2))
        self.exact(table_error(3, ("2", "", "0")), ("word", 0))
        self.exact(table_error(4, ("011", "01", "0", "0")), ("begins", 1, 0))
        self.exact(table_error(4, ("1", "01", "10", "11")), ("begins", 0, 2))
        self.exact(table_error(3, ("1", "0", "0")), ("begins", 1, 2))

    def test_by_name(self):
        self.exact(table_error(n=2, value=("0", "1")), None)


class IsFull(Case):
    def test_all_small_tables(self):
        rows = words_of(3)
        for table in small_tables(3, 4):
            wanted = all(any(row.startswith(word) for word in table) for row in rows)
            self.exact(is_full(table), wanted)

    def test_full_as_long_as_no_word_is_taken_out(self):
        for n in range(2, 13):
            table = tuple("1" * place + "0" for place in range(n - 1)) + ("1" * (n - 1),)
            self.exact(is_full(table), True)
            for place in range(n):
                self.exact(is_full(table[:place] + table[place + 1:]), False)

    def test_long_words(self):
        self.exact(is_full(("0" * 40,)), False)
        self.exact(is_full(("0", "1" + "0" * 39)), False)
        self.exact(is_full(tuple("1" * place + "0" for place in range(11)) + ("1" * 40,)), False)

    def test_by_name(self):
        self.exact(is_full(table=("1", "0")), True)


class Unary(Case):
    def test_all_numbers_of_places(self):
        for n in range(1, 13):
            self.exact(unary(n), ("0", "10", "110", "1110", "11110", "111110", "1111110", "11111110", "111111110",
                                  "1111111110", "11111111110", "111111111110")[:n])
            self.exact(table_error(n, unary(n)), None)
            self.exact(is_full(unary(n)), False)
        self.exact(unary(n=1), ("0",))

    def test_its_words_have_as_many_bits_as_the_places_and_one_each(self):
        chance = random.Random(29)
        for n in range(1, 13):
            places = some_text(chance, n, 400)
            self.assertEqual(len("".join(unary(n)[place] for place in places)), sum(places) + 400)


class EvenTable(Case):
    LENGTHS = (
        (1,), (1, 1), (1, 2, 2), (2,) * 4, (2,) * 3 + (3,) * 2, (2,) * 2 + (3,) * 4, (2,) + (3,) * 6, (3,) * 8,
        (3,) * 7 + (4,) * 2, (3,) * 6 + (4,) * 4, (3,) * 5 + (4,) * 6, (3,) * 4 + (4,) * 8,
    )

    def test_all_numbers_of_places(self):
        for n in range(1, 13):
            table = even_table(n)
            self.exact(tuple(len(word) for word in table), self.LENGTHS[n - 1])
            self.exact(table, given_out(self.LENGTHS[n - 1]))
            self.exact(table_error(n, table), None)
            self.exact(is_full(table), n > 1)

    def test_by_name(self):
        self.exact(even_table(n=4), ("00", "01", "10", "11"))


class TableOf(Case):
    def test_all_lengths_of_few_bits(self):
        for many in range(1, 6):
            for lengths in itertools.product(range(1, 5), repeat=many):
                wanted = given_out(lengths)
                if wanted is None:
                    self.raises(Unfit(), table_of, lengths)
                else:
                    self.exact(table_of(lengths), wanted)

    def test_there_is_one_exactly_if_some_table_has_these_lengths(self):
        some = {tuple(len(word) for word in table) for table in small_tables(3, 3)}
        for many in range(1, 4):
            for lengths in itertools.product(range(1, 4), repeat=many):
                self.assertEqual(share(lengths) <= 1, lengths in some)
                self.check(lengths)

    def check(self, lengths):
        """Each word begins where those given ahead of it end, all rows of bits being a whole."""
        if share(lengths) > 1:
            self.raises(Unfit(), table_of, lengths)
            return
        table = table_of(lengths)
        self.exact(table_error(len(lengths), table), None)
        self.exact(is_full(table), share(lengths) == 1)
        for place, length in enumerate(lengths):
            ahead = [one for one in lengths if one < length] + [one for one in lengths[:place] if one == length]
            self.exact(table[place], format(int(share(ahead) * 2 ** length), "b").zfill(length))

    def test_lengths_in_any_order_up_to_40_bits(self):
        chance = random.Random(30)
        for longest in (4, 6, 12, 40):
            for _ in range(300):
                self.check(tuple(chance.randint(1, longest) for _ in range(chance.randint(1, 12))))

    def test_lengths_that_fill_all_and_one_bit_more(self):
        chance = random.Random(31)
        for n in range(2, 13):
            lengths = list(range(1, n)) + [n - 1]
            chance.shuffle(lengths)
            self.check(tuple(lengths))
            self.raises(Unfit(), table_of, tuple(lengths) + (40,))

    def test_great_lengths(self):
        self.exact(table_of((40,)), ("0" * 40,))
        self.exact(table_of((40, 1)), ("1" + "0" * 39, "0"))
        self.exact(table_of((40, 40)), ("0" * 40, "0" * 39 + "1"))
        self.check((40,) * 12)
        self.check(tuple(range(40, 28, -1)))
        self.raises(Unfit(), table_of, (40, 1, 1))

    def test_by_name(self):
        self.exact(table_of(lengths=(1, 1)), ("0", "1"))
        self.raises(Unfit(), table_of, lengths=(1, 1, 1))
