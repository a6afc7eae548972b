"""Ropes: texts in pieces, each with its summary."""

import itertools
import random

from forwardlists.errors import TooMany, Unfit
from forwardlists.ropes import part_sums, rope_error, rope_in, rope_joined, rope_of, rope_out, rope_text
from tests.cases import Case, any_values, some_text
from tests.changing import changed_once, some_change
from tests.sums import short_texts, summed

EMPTY = (0, (0, (), ()), ())
ONE, OTHER = (3, (0, (1, 2), (1, 2)), (1, 1, 2)), (5, (2, (0, 2, 1), (2, 1, 0)), (0, 2, 1, 1, 0))
BOTH = (8, (5, (1, 2, 0), (2, 1, 0)), (ONE, OTHER))


def told(body):
    """The text of a body, by the words of the document."""
    if all(type(item) is int for item in body):
        return body
    return tuple(letter for piece in body for letter in told(piece[2]))


def made(body):
    """The rope of this body, which is a text or a tuple of ropes."""
    text = told(body)
    return (len(text), summed(text), body)


def formed(n, value, deep):
    """Whether value has the form of a rope with at most `deep` tuples of pieces within one another."""
    if type(value) is not tuple or len(value) != 3 or type(value[2]) is not tuple:
        return False
    body = value[2]
    if all(type(item) is int for item in body):
        return len(body) <= 10 and all(0 <= item < n for item in body)
    return deep > 0 and 1 <= len(body) <= 40 and all(formed(n, piece, deep - 1) for piece in body)


def within(value):
    """value and all ropes within it."""
    found = [value]
    for item in value[2]:
        if type(item) is tuple:
            found += within(item)
    return found


def fault(n, value):
    """What is wrong with value as a rope of n letters, by the words of the document."""
    if not formed(n, value, 4):
        return "form"
    parts = within(value)
    if any(repr(part[0]) != repr(len(told(part[2]))) for part in parts) or len(told(value[2])) > 400:
        return "many"
    if any(repr(part[1]) != repr(summed(told(part[2]))) for part in parts):
        return "sums"
    return None


def items_in(value):
    """How many items a tuple has, counted at each place where they stand."""
    return len(value) + sum(items_in(item) for item in value if isinstance(item, tuple))


def some_rope(chance, n, deep, most=400):
    """A rope of n letters with at most `deep` tuples of pieces within one another, and at most `most` letters."""
    if deep == 0 or chance.random() < 0.1:
        return made(some_text(chance, n, chance.randint(0, min(10, most))))
    pieces = []
    for _ in range(chance.randint(1, 5)):
        piece = some_rope(chance, n, deep - 1, most)
        most -= piece[0]
        pieces.append(piece)
    return made(tuple(pieces))


def some_ropes(many, seed):
    """`many` triples (n, rope, chance), of one to twelve letters and of each depth."""
    chance = random.Random(seed)
    for at in range(many):
        n = chance.randint(1, 12)
        yield n, some_rope(chance, n, at % 5), chance


class Examples(Case):
    def test_examples(self):
        self.holds("""
            >>> from forwardlists.ropes import part_sums, rope_error, rope_in, rope_joined, rope_of, rope_out, rope_text
            >>> one, other = (3, (0, (1, 2), (1, 2)), (1, 1, 2)), (5, (2, (0, 2, 1), (2, 1, 0)), (0, 2, 1, 1, 0))
            >>> both = (8, (5, (1, 2, 0), (2, 1, 0)), (one, other))
            >>> [rope_error(3, value) for value in (one, other, both, (0, (0, (), ()), ()), (8, both[1], (both,)))], rope_text(both)
            ([None, None, None, None, None], (1, 1, 2, 0, 2, 1, 1, 0))
            >>> [rope_error(3, value) for value in ((7,) + both[1:], (8, (4,) + both[1][1:], both[2]), (8, both[1], (one, (5, one[1], other[2]))), (3, one[1], (1, 1, 3)), (3, one[1], [1, 1, 2]), (0, (0, (), ()), ((),)), None)]
            ['many', 'sums', 'sums', 'form', 'form', 'form', 'form']
            >>> rope_text(rope_of(3, (2, 0, 1) * 100)) == (2, 0, 1) * 100, rope_error(3, rope_of(3, (2, 0, 1) * 100))
            (True, None)
            >>> part_sums(3, both, 2, 6), part_sums(3, both, 0, 8), part_sums(3, both, 4, 4), part_sums(3, both, 3, 8) == other[1]
            ((1, (2, 0, 1), (0, 2, 1)), (5, (1, 2, 0), (2, 1, 0)), (0, (), ()), True)
            >>> part_sums(3, both, 5, 4)
            raises Unfit()
            >>> part_sums(3, both, 0, 9)
            raises Unfit()
            >>> rope_text(rope_joined(3, one, other)) == rope_text(both), rope_text(rope_in(3, one, 1, (0, 0))), rope_text(rope_out(3, both, 1, 7)), rope_error(3, rope_out(3, one, 0, 3))
            (True, (1, 0, 0, 1, 2), (1, 0), None)
            >>> rope_in(3, one, 4, (0,))
            raises Unfit()
            >>> rope_joined(3, rope_of(3, (0,) * 400), one)
            raises TooMany(400)
        """)


class RopeError(Case):
    def check(self, n, value):
        self.exact(rope_error(n, value), fault(n, value))

    def test_right_ropes_of_each_depth(self):
        for n, rope, _ in some_ropes(150, 161):
            self.exact(rope_error(n, rope), None)
            self.exact(rope_text(rope), told(rope[2]))
            # A letter that is none of fewer letters.
            if rope[0] > 0:
                self.exact(rope_error(max(rope_text(rope)), rope) if max(rope_text(rope)) else "form", "form")

    def test_one_part_changed_at_each_depth(self):
        deep = made((made((made((made((ONE,)), EMPTY)),)), OTHER))
        for rope in (ONE, EMPTY, BOTH, made((BOTH, EMPTY, ONE)), deep):
            self.exact(rope_error(3, rope), None)
            for value in changed_once(rope):
                self.check(3, value)

    def test_two_and_more_parts_changed(self):
        chance = random.Random(162)
        found = set()
        ropes = [some_rope(chance, 3, deep, 60) for deep in range(5) for _ in range(8)]
        for _ in range(3000):
            value = chance.choice(ropes)
            for _ in range(chance.randint(2, 3)):
                value = some_change(chance, value)
            self.check(3, value)
            found.add(rope_error(3, value))
        self.assertEqual(found, {None, "form", "many", "sums"})

    def test_what_is_wrong_first(self):
        # form ahead of many ahead of sums, wherever they stand.
        wrong_many, wrong_sums = (9,) + BOTH[1:], (8, (0, (), ()), BOTH[2])
        wrong_form = (3, ONE[1], (1, 1, 3))
        for first, rope in (("many", wrong_many), ("sums", wrong_sums), ("form", wrong_form)):
            self.exact(rope_error(3, rope), first)
        self.exact(rope_error(3, (wrong_many[0], wrong_sums[1], BOTH[2])), "many")
        self.exact(rope_error(3, (8, wrong_sums[1], ((2,) + ONE[1:], OTHER))), "many")
        self.exact(rope_error(3, (9, wrong_sums[1], (wrong_form, OTHER))), "form")
        self.exact(rope_error(3, (None, None, (wrong_form, OTHER))), "form")
        self.exact(rope_error(3, (None, None, (ONE, OTHER))), "many")
        self.exact(rope_error(3, (8, None, (ONE, OTHER))), "sums")

    def test_true_is_not_1_and_false_not_0(self):
        one = made((1,))
        self.exact(rope_error(2, (1, (0, (1,), (1,)), (1,))), None)
        self.exact(rope_error(2, (True,) + one[1:]), "many")
        self.exact(rope_error(2, (1, (False, (1,), (1,)), (1,))), "sums")
        self.exact(rope_error(2, (1, (0, (True,), (1,)), (1,))), "sums")
        self.exact(rope_error(2, (1, (0, (1,), (True,)), (1,))), "sums")
        self.exact(rope_error(2, (1, (0, (1,), (1,)), (True,))), "form")
        self.exact(rope_error(2, (False,) + EMPTY[1:]), "many")
        self.exact(rope_error(2, (1, one[1], ((True,) + one[1:],))), "many")
        self.exact(rope_error(2, (1, one[1], ((1, (False, (1,), (1,)), (1,)),))), "sums")

    def test_how_deep_it_may_be(self):
        for start in (EMPTY, ONE):
            rope = start
            for deep in range(8):
                self.exact(rope_error(3, rope), None if deep <= 4 else "form")
                self.exact(rope_error(3, made((EMPTY, rope))), None if deep <= 3 else "form")
                rope = made((rope,))

    def test_how_many_pieces_it_may_have(self):
        for piece in (EMPTY, ONE, made((2,) * 10), made((EMPTY,))):
            for many in (1, 2, 39, 40, 41, 80):
                body = (piece,) * many
                wanted = None if many <= 40 else "form"
                if many == 80 and piece[0] > 5:
                    wanted = "form"
                self.exact(rope_error(3, made(body)), wanted)
                self.exact(rope_error(3, made((made(body),))), wanted)

    def test_how_many_letters_it_may_have(self):
        for many in range(13):
            self.exact(rope_error(2, made((1,) * many)), None if many <= 10 else "form")
            self.exact(rope_error(2, made((made((1,) * many),))), None if many <= 10 else "form")
        full = made((made((0,) * 10),) * 40)
        self.exact((full[0], rope_error(2, full)), (400, None))
        self.exact(rope_error(2, made((full,))), None)
        self.exact(rope_error(2, made((full, EMPTY))), None)
        self.exact(rope_error(2, made((full, made((1,))))), "many")
        self.exact(rope_error(2, made((full, full))), "many")
        # No first item makes it good, and a wrong sum is told behind it.
        self.exact(rope_error(2, (400, (0, (0,), (0,)), (full, made((1,))))), "many")

    def test_letters_and_pieces_do_not_stand_side_by_side(self):
        for body in ((1, EMPTY), (EMPTY, 1), (ONE, 0, ONE), (EMPTY, EMPTY, None), (EMPTY, ())):
            self.exact(rope_error(3, (1, (0, (1,), (1,)), body)), "form")

    def test_any_value(self):
        for n in (1, 2, 12):
            for value in any_values():
                self.check(n, value)
                self.check(n, (value, value, ()))
                self.check(n, (0, (0, (), ()), value))
                self.check(n, (0, value, ()))
                self.check(n, (0, (0, (), ()), (value,)))
                self.keeps(rope_error, n, value)

    def test_what_this_package_makes_put_together(self):
        rope = rope_of(12, tuple(range(12)) * 33)
        for value in ((rope,), (396, rope[1], (rope,)), (792, rope[1], (rope, rope)), (0, rope[1], (rope,) * 40)):
            self.check(12, value)
        self.exact(rope_error(12, made((rope,))), None)


class RopeOf(Case):
    def check(self, n, text):
        rope = rope_of(n, text)
        self.exact(rope_error(n, rope), None)
        self.exact(fault(n, rope), None)
        self.exact((rope[0], rope_text(rope), rope[1]), (len(text), text, summed(text)))
        # So it may be handed in again.
        self.assertLessEqual(items_in(rope), 4000)
        self.exact(rope_of(n, text), rope)

    def test_all_texts_of_few_letters(self):
        for n in (1, 2, 3):
            for text in short_texts(n, 5):
                self.check(n, text)

    def test_texts_of_every_length(self):
        chance = random.Random(163)
        for length in range(401):
            n = chance.randint(1, 12)
            self.check(n, some_text(chance, n, length))
        for n in range(1, 13):
            self.check(n, some_text(chance, n, 400))
            self.check(n, (n - 1,) * 400)
        self.check(12, tuple(range(12)))

    def test_by_name(self):
        self.exact(rope_text(rope=rope_of(n=2, text=(1, 0))), (1, 0))
        self.exact(rope_error(n=2, value=EMPTY), None)


class Parts(Case):
    def test_every_part_of_ropes_of_each_depth(self):
        for n, rope, _ in some_ropes(60, 164):
            text = told(rope[2])
            places = range(len(text) + 1) if len(text) < 25 else sorted({0, 1, 9, 10, 11, 20, len(text) - 1, len(text)})
            for begin, end in itertools.combinations_with_replacement(places, 2):
                self.exact(part_sums(n, rope, begin, end), summed(text[begin:end]))

    def test_the_same_whatever_the_pieces_are(self):
        for n, rope, chance in some_ropes(60, 165):
            text = told(rope[2])
            plain = rope_of(n, text)
            self.exact(plain[:2], rope[:2])
            for _ in range(10):
                begin = chance.randint(0, len(text))
                end = chance.randint(begin, len(text))
                self.exact(part_sums(n, rope, begin, end), part_sums(n, plain, begin, end))

    def test_refused_places(self):
        for rope in (EMPTY, ONE, BOTH, made((BOTH, ONE))):
            many, text = rope[0], told(rope[2])
            for value in any_values():
                fits = type(value) is int and 0 <= value <= many
                for begin, end in ((value, many), (0, value)):
                    if fits:
                        self.exact(part_sums(3, rope, begin, end), summed(text[begin:end]))
                        self.exact(rope_text(rope_out(3, rope, begin, end)), text[:begin] + text[end:])
                    else:
                        self.raises(Unfit(), part_sums, 3, rope, begin, end)
                        self.raises(Unfit(), rope_out, 3, rope, begin, end)
                if not fits:
                    self.raises(Unfit(), rope_in, 3, rope, value, (0,))
                    self.raises(Unfit(), rope_in, 3, rope, value, ())
            for begin, end in itertools.product(range(-2, many + 3), repeat=2):
                if not 0 <= begin <= end <= many:
                    self.raises(Unfit(), part_sums, 3, rope, begin, end)
                    self.raises(Unfit(), rope_out, 3, rope, begin, end)

    def test_by_name(self):
        self.exact(part_sums(n=3, rope=BOTH, begin=2, end=6), (1, (2, 0, 1), (0, 2, 1)))


class Edits(Case):
    def check(self, n, rope, text):
        self.exact(rope_error(n, rope), None)
        self.exact(fault(n, rope), None)
        self.exact((rope[0], rope_text(rope), rope[1]), (len(text), text, summed(text)))
        self.assertLessEqual(items_in(rope), 4000)

    def test_every_edit_of_few_letters(self):
        for rope in (EMPTY, ONE, OTHER, BOTH, made((EMPTY, BOTH, ONE)), made((made((1,)), EMPTY, made((2, 0))))):
            text = told(rope[2])
            for begin, end in itertools.combinations_with_replacement(range(len(text) + 1), 2):
                self.check(3, rope_out(3, rope, begin, end), text[:begin] + text[end:])
            for at in range(len(text) + 1):
                for more in ((), (0,), (2, 1), (0, 1, 2) * 7):
                    self.check(3, rope_in(3, rope, at, more), text[:at] + more + text[at:])
            for further in (EMPTY, ONE, BOTH):
                self.check(3, rope_joined(3, rope, further), text + told(further[2]))
                self.check(3, rope_joined(3, further, rope), told(further[2]) + text)

    def test_ropes_of_each_depth(self):
        for n, rope, chance in some_ropes(120, 166):
            text = told(rope[2])
            begin = chance.randint(0, len(text))
            end = chance.randint(begin, len(text))
            self.check(n, rope_out(n, rope, begin, end), text[:begin] + text[end:])
            more = some_text(chance, n, chance.randint(0, min(60, 400 - len(text))))
            self.check(n, rope_in(n, rope, begin, more), text[:begin] + more + text[begin:])
            further = some_rope(chance, n, chance.randint(0, 4))
            if len(text) + further[0] <= 400:
                self.check(n, rope_joined(n, rope, further), text + told(further[2]))
            else:
                self.raises(TooMany(400), rope_joined, n, rope, further)

    def test_edit_behind_edit(self):
        for n in (1, 3, 12):
            chance = random.Random(167 + n)
            text = some_text(chance, n, 400)
            rope = rope_of(n, text)
            for step in range(500):
                at = chance.randint(0, len(text))
                if len(text) == 400 or chance.random() < 0.5:
                    end = min(at + chance.randint(0, 3), len(text))
                    rope, text = rope_out(n, rope, at, end), text[:at] + text[end:]
                else:
                    more = some_text(chance, n, min(chance.randint(0, 3), 400 - len(text)))
                    rope, text = rope_in(n, rope, at, more), text[:at] + more + text[at:]
                if step % 20 == 0:
                    self.check(n, rope, text)
            self.check(n, rope, text)

    def test_letter_by_letter(self):
        chance = random.Random(168)
        for ahead in (True, False):
            rope, text = rope_of(12, ()), ()
            for _ in range(400):
                letter = chance.randrange(12)
                at = 0 if ahead else len(text)
                rope, text = rope_in(12, rope, at, (letter,)), text[:at] + (letter,) + text[at:]
            self.check(12, rope, text)
            self.raises(TooMany(400), rope_in, 12, rope, 200, (0,))
        rope = EMPTY
        for letter in text:
            rope = rope_joined(12, rope, made((letter,)))
        self.check(12, rope, text)

    def test_ropes_of_single_letters(self):
        letters = tuple(made((letter % 3,)) for letter in range(300))
        single = made(tuple(made(letters[at:at + 20]) for at in range(0, 300, 20)))
        self.exact(rope_error(3, single), None)
        text = told(single[2])
        self.check(3, rope_out(3, single, 150, 151), text[:150] + text[151:])
        self.check(3, rope_in(3, single, 7, (2,) * 100), text[:7] + (2,) * 100 + text[7:])
        self.check(3, rope_joined(3, single, made((0,) * 10)), text + (0,) * 10)

    def test_as_many_letters_as_a_text_has_at_most(self):
        full, nearly, one = rope_of(2, (0,) * 400), rope_of(2, (1,) * 399), made((0,))
        self.check(2, rope_joined(2, nearly, one), (1,) * 399 + (0,))
        self.check(2, rope_joined(2, EMPTY, full), (0,) * 400)
        self.check(2, rope_in(2, nearly, 399, (0,)), (1,) * 399 + (0,))
        self.check(2, rope_in(2, full, 200, ()), (0,) * 400)
        self.check(2, rope_in(2, EMPTY, 0, (1,) * 400), (1,) * 400)
        for call in ((rope_joined, 2, full, one), (rope_joined, 2, one, full), (rope_joined, 2, full, full)):
            self.raises(TooMany(400), *call)
        self.raises(TooMany(400), rope_in, 2, full, 0, (0,))
        self.raises(TooMany(400), rope_in, 2, nearly, 399, (0, 0))
        self.raises(TooMany(400), rope_in, 2, one, 1, (0,) * 400)
        # A place that is none is told of ahead of a text that is too long.
        self.raises(Unfit(), rope_in, 2, full, 401, (0,))
        self.raises(Unfit(), rope_in, 2, full, None, (0,) * 400)

    def test_by_name_and_nothing_is_changed(self):
        self.exact(rope_text(rope_joined(n=3, one=ONE, other=OTHER)), told(BOTH[2]))
        self.exact(rope_text(rope_in(n=3, rope=ONE, at=1, text=(0, 0))), (1, 0, 0, 1, 2))
        self.exact(rope_text(rope_out(n=3, rope=BOTH, begin=1, end=7)), (1, 0))
        self.keeps(rope_joined, 3, BOTH, ONE)
        self.keeps(rope_in, 3, BOTH, 4, (0, 1))
        self.keeps(rope_out, 3, BOTH, 1, 4)
        self.keeps(part_sums, 3, BOTH, 1, 4)
        self.keeps(part_sums, 3, BOTH, [1], {4: 4})
        self.keeps(rope_text, BOTH)
        self.keeps(rope_of, 3, (0, 1, 2) * 9)
