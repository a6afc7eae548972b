"""Orders and texts: what is one, and how they are written."""

import itertools
import random
import re

from forwardlists.errors import BadOrder, BadText
from forwardlists.orders import order_error, order_text, read_order, read_text, text_error, text_text
from tests.cases import Case, all_orders, any_values, some_order, some_text, spoilt

SIGNS = "abcdefghijkl"
WHOLE = re.compile("[a-l]( [a-l])*")
BEGUN = re.compile("([a-l] )*[a-l]?")


def stranger(n, value):
    """The place of the first item of value that is none of n letters."""
    for place, item in enumerate(value):
        if type(item) is not int or item not in range(n):
            return place
    return None


def order_fault(n, value):
    """What is wrong with value as an order, by the words of the document."""
    if type(value) is not tuple or len(value) != n:
        return "form"
    if stranger(n, value) is not None:
        return ("letter", stranger(n, value))
    for place in range(n):
        if value[place] in value[:place]:
            return ("twice", place)
    return None


def text_fault(n, value):
    """What is wrong with value as a text, by the words of the document."""
    if type(value) is not tuple or len(value) > 400:
        return "form"
    if stranger(n, value) is not None:
        return ("letter", stranger(n, value))
    return None


def reading(value, fault):
    """What reading value has to end with, fault telling what is wrong with the letters read."""
    if type(value) is not str:
        return BadText(0)
    if WHOLE.fullmatch(value):
        letters = tuple(SIGNS.index(sign) for sign in value.split())
        return letters if fault(letters) is None else BadOrder(fault(letters))
    return BadText(BEGUN.match(value).end())


def order_reading(n, value):
    """What read_order has to end with."""
    return reading(value, lambda letters: order_fault(n, letters))


def text_reading(n, value):
    """What read_text has to end with."""
    if type(value) is str and value[:1] == "n":
        if value == "none":
            return ()
        alike = 0
        while value[:alike + 1] == "none"[:alike + 1] and alike < min(len(value), 4):
            alike += 1
        return BadText(alike)
    return reading(value, lambda letters: text_fault(n, letters))


class Reader(Case):
    def read(self, call, wanted, n, value):
        """call(n, value) returns wanted, or raises it."""
        if isinstance(wanted, tuple):
            self.exact(call(n, value), wanted)
        else:
            self.raises(wanted, call, n, value)

    def read_both(self, n, value):
        """value is read as it should be as an order, and as a text."""
        self.read(read_order, order_reading(n, value), n, value)
        self.read(read_text, text_reading(n, value), n, value)


class Examples(Case):
    def test_examples_of_errors(self):
        self.holds("""
            >>> from forwardlists.orders import order_error, order_text, read_order, read_text, text_error, text_text
            >>> [order_error(3, value) for value in ((2, 0, 1), (0, 1), [0, 1, 2], (0, 1, 3), (0, 1, True), (0, 1, 1), (1, 1, 3))]
            [None, 'form', 'form', ('letter', 2), ('letter', 2), ('twice', 2), ('letter', 2)]
            >>> [text_error(2, value) for value in ((), (0, 1, 1, 0), (0,) * 401, (0, 2), (True,), None)]
            [None, None, 'form', ('letter', 1), ('letter', 0), 'form']
        """)

    def test_examples_of_texts(self):
        self.holds("""
            >>> from forwardlists.orders import order_error, order_text, read_order, read_text, text_error, text_text
            >>> order_text((2, 0, 1)), text_text((0, 1, 1, 2)), text_text(()), read_order(3, "b a c"), read_text(3, "a c c"), read_text(3, "none")
            ('c a b', 'a b b c', 'none', (1, 0, 2), (0, 2, 2), ())
            >>> read_order(3, "a bc")
            raises BadText(3)
            >>> read_order(3, "a b d")
            raises BadOrder(('letter', 2))
            >>> read_text(3, "nose")
            raises BadText(2)
            >>> read_text(3, "")
            raises BadText(0)
        """)


class OrderError(Case):
    def test_all_short_tuples(self):
        for n in range(1, 5):
            for many in range(5):
                for value in itertools.product(range(-1, 5), repeat=many):
                    self.exact(order_error(n, value), order_fault(n, value))

    def test_any_value(self):
        for n in range(1, 13):
            for value in any_values():
                self.exact(order_error(n, value), order_fault(n, value))
                self.keeps(order_error, n, value)

    def test_any_value_as_an_item(self):
        for item in any_values():
            for place in range(4):
                value = tuple(range(place)) + (item,) + tuple(range(place + 1, 4))
                self.exact(order_error(4, value), order_fault(4, value))

    def test_every_order_is_one(self):
        for n in range(1, 6):
            for order in all_orders(n):
                self.exact(order_error(n, order), None)
        self.exact(order_error(12, tuple(range(11, -1, -1))), None)

    def test_one_letter_too_few_or_too_many(self):
        for n in range(1, 13):
            self.exact(order_error(n, tuple(range(n - 1))), "form")
            self.exact(order_error(n, tuple(range(n + 1))), "form")

    def test_true_and_false_are_no_letters(self):
        self.exact(order_error(2, (False, 1)), ("letter", 0))
        self.exact(order_error(2, (0, True)), ("letter", 1))
        self.exact(order_error(1, (False,)), ("letter", 0))

    def test_what_is_told_first(self):
        self.exact(order_error(3, [9, 9]), "form")
        self.exact(order_error(4, (0, 0, 4, 5)), ("letter", 2))
        self.exact(order_error(4, (0, 0, 1, 1)), ("twice", 1))
        self.exact(order_error(4, (3, 1, 3, 1)), ("twice", 2))

    def test_by_name(self):
        self.exact(order_error(n=2, value=(0, 0)), ("twice", 1))


class TextError(Case):
    def test_all_short_tuples(self):
        for n in range(1, 4):
            for many in range(5):
                for value in itertools.product(range(-1, 4), repeat=many):
                    self.exact(text_error(n, value), text_fault(n, value))

    def test_any_value(self):
        for n in range(1, 13):
            for value in any_values():
                self.exact(text_error(n, value), text_fault(n, value))
                self.keeps(text_error, n, value)

    def test_any_value_as_an_item(self):
        for item in any_values():
            for ahead in range(3):
                value = (1,) * ahead + (item, 0)
                self.exact(text_error(3, value), text_fault(3, value))

    def test_as_many_letters_as_can_be_and_one_more(self):
        for n in range(1, 13):
            self.exact(text_error(n, ()), None)
            self.exact(text_error(n, (n - 1,) * 400), None)
            self.exact(text_error(n, (n - 1,) * 401), "form")
            self.exact(text_error(n, (n,)), ("letter", 0))
            self.exact(text_error(n, (n - 1,) * 399 + (n,)), ("letter", 399))

    def test_what_is_told_first(self):
        self.exact(text_error(2, (5,) * 401), "form")
        self.exact(text_error(2, [5]), "form")
        self.exact(text_error(2, (0, 2, True)), ("letter", 1))
        self.exact(text_error(2, (0, False, 2)), ("letter", 1))

    def test_by_name(self):
        self.exact(text_error(n=1, value=(0, 1)), ("letter", 1))


class Texts(Case):
    def test_letters_are_written_a_to_l(self):
        self.exact(order_text(tuple(range(12))), "a b c d e f g h i j k l")
        self.exact(text_text(tuple(range(11, -1, -1))), "l k j i h g f e d c b a")
        self.exact(order_text(order=(0,)), "a")
        self.exact(text_text(text=(1, 1)), "b b")
        self.exact(text_text(()), "none")

    def test_what_is_read_of_a_text_is_the_order(self):
        for n in range(1, 6):
            for order in all_orders(n):
                self.exact(read_order(n, order_text(order)), order)
        chance = random.Random(3)
        for _ in range(100):
            order = some_order(chance, 12)
            self.exact(read_order(12, order_text(order)), order)

    def test_what_is_read_of_a_text_is_the_text(self):
        for many in range(5):
            for text in itertools.product(range(3), repeat=many):
                self.exact(read_text(3, text_text(text)), text)
        chance = random.Random(4)
        for n in range(1, 13):
            for length in (0, 1, 2, 399, 400):
                text = some_text(chance, n, length)
                self.exact(read_text(n, text_text(text)), text)

    def test_unlike_ones_have_unlike_texts(self):
        orders = [order for n in range(1, 6) for order in all_orders(n)]
        self.assertEqual(len({order_text(order) for order in orders}), len(orders))
        texts = [text for many in range(5) for text in itertools.product(range(4), repeat=many)]
        self.assertEqual(len({text_text(text) for text in texts}), len(texts))


class Reading(Reader):
    def test_all_short_strings(self):
        for many in range(5):
            for signs in itertools.product("ablmno \n", repeat=many):
                self.read_both(2, "".join(signs))

    def test_spoilt_texts(self):
        for n, text in ((1, "a"), (2, "b a"), (3, "c a b"), (12, "l k j i h g f e d c b a"), (4, "none")):
            for value in spoilt(text, "abclmnoA0 ,\n"):
                self.read_both(n, value)

    def test_any_value(self):
        for n in (1, 2, 12):
            for value in any_values():
                self.read_both(n, value)
                self.keeps(read_order, n, value)
                self.keeps(read_text, n, value)

    def test_what_is_no_string_is_told_by_0(self):
        for value in (None, 0, True, ("a",), ["a"], {"a": 0}, ()):
            self.raises(BadText(0), read_order, 1, value)
            self.raises(BadText(0), read_text, 1, value)

    def test_each_way_to_spoil_a_text(self):
        spoils = {
            "": 0, " ": 0, " a": 0, "a ": 2, "a  b": 2, "a b ": 4, "ab": 1, "a bb": 3, "a m": 2, "m": 0, "A": 0,
            "a\n": 1, "\na": 0, "a\nb": 1, "a,b": 1, "a 0": 2, "a n": 2, "a none": 2,
        }
        for value, place in spoils.items():
            self.raises(BadText(place), read_order, 2, value)
            self.raises(BadText(place), read_text, 2, value)

    def test_none_is_read_alone_and_in_texts_only(self):
        spoils = {"n": 1, "no": 2, "non": 3, "none ": 4, "none a": 4, "nonee": 4, "none\n": 4, "n a": 1, "nn": 1, "noNe": 2}
        for value, place in spoils.items():
            self.raises(BadText(place), read_text, 3, value)
            self.raises(BadText(0), read_order, 3, value)
        self.raises(BadText(0), read_order, 3, "none")
        self.raises(BadText(0), read_text, 3, "None")
        for n in range(1, 13):
            self.exact(read_text(n, "none"), ())

    def test_what_is_made_well_and_is_no_order(self):
        self.raises(BadOrder("form"), read_order, 3, "a b")
        self.raises(BadOrder("form"), read_order, 3, "a b c d")
        self.raises(BadOrder("form"), read_order, 1, "a" + " a" * 9999)
        self.raises(BadOrder(("twice", 2)), read_order, 3, "a b a")
        self.raises(BadOrder(("letter", 2)), read_order, 3, "a a l")
        self.raises(BadOrder(("letter", 0)), read_order, 1, "b")

    def test_what_is_made_well_and_is_no_text(self):
        self.raises(BadOrder("form"), read_text, 1, "a" + " a" * 400)
        self.raises(BadOrder("form"), read_text, 1, "b" + " b" * 400)
        self.raises(BadOrder(("letter", 1)), read_text, 2, "a c d")
        self.raises(BadOrder(("letter", 399)), read_text, 11, "a " * 399 + "l")

    def test_a_text_that_is_spoilt_is_told_ahead_of_wrong_letters(self):
        self.raises(BadText(4), read_order, 2, "c c m")
        self.raises(BadText(4), read_text, 2, "c c ")
        self.raises(BadText(802), read_text, 1, "a " * 401)

    def test_by_name(self):
        self.exact(read_order(n=2, value="b a"), (1, 0))
        self.exact(read_text(n=2, value="b b"), (1, 1))
