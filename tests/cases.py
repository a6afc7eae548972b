"""What the tests share: exact comparing, refusals, the document's examples, odd values."""

import copy
import itertools
import random
import unittest

from forwardlists import errors
from forwardlists.asking import asked
from forwardlists.errors import ListError

# A block of eight places, one of which stays behind the first one: of such nothing is told.
STAYING = (0, 1, 0, 0, 0, 0, 0, 0)


def nested(deep, make):
    """An empty value within `deep` others of its sort."""
    value = make([])
    for _ in range(deep - 1):
        value = make([value])
    return value


def any_values():
    """Values of every sort that may be handed in as "any value", made anew at each call."""
    return [
        None, True, False, 0, 1, 2, -1, -2, 7, 12, 13, 400, 10 ** 399, -(10 ** 399),
        "", " ", "\n", "0", "1", "00", "0 0", "0 0 1", "0 2", "a", "b a", "none", "form", "None", "True",
        "x" * 20000, "0 " * 10000, "a " * 10000, "~", "[0]", "(0,)",
        (), (None,), (True,), (False,), (0,), (1,), (-1,), ("0",), ("a",), ("0", "1"), ((),), ((0,),), ([],), ([0],),
        ({},), (0, 0), (0, 1), (1, 0), (False, True), (0, False), (0, True), (0, None), (0, "1"), (0, (1,)), (0, [1]),
        (0, {0: 1}), (0, 10 ** 399), (0, -(10 ** 399)), (0,) * 12, (0,) * 13, (0,) * 400, (0,) * 401, (0,) * 4000,
        tuple(range(12)), tuple(range(13)), [], [0], [0, 0], [0, 1], [None], ["0"], [[]], [()], list(range(12)),
        {}, {0: 0}, {0: 1, 1: 0}, {"0": "1"}, {(): ()}, {None: None}, {True: False}, {(0, 1): [0, 1]},
        nested(20, tuple), nested(20, list), nested(10, lambda inner: {0: inner}),
    ]


def all_rules(n):
    """All rules of n places."""
    return list(itertools.product(*[range(place + 1) for place in range(n)]))


def rules_up_to(most):
    """All rules of 1 to `most` places."""
    return [rule for n in range(1, most + 1) for rule in all_rules(n)]


def all_orders(n):
    """All orders of n letters, the least one first."""
    return list(itertools.permutations(range(n)))


def all_out(rule, order):
    """All orders that come out of order, by going through all asks."""
    found = [order]
    known = {order}
    for now in found:
        for letter in order:
            behind = asked(rule, now, letter)
            if behind not in known:
                known.add(behind)
                found.append(behind)
    return found


def all_of_three_places(most):
    """All rules of three places, with all orders and all texts of at most `most` letters."""
    for rule in all_rules(3):
        for order in all_orders(3):
            for many in range(most + 1):
                for text in itertools.product(range(3), repeat=many):
                    yield rule, order, text


def spoilt(text, signs):
    """text cut short, with a sign left out, and with one of signs put in or put in its place."""
    for place in range(len(text) + 1):
        yield text[:place]
        yield text[place:]
        yield text[:place] + text[place + 1:]
        for sign in signs:
            yield text[:place] + sign + text[place:]
            yield text[:place] + sign + text[place + 1:]


def some_rules(many, seed, least=6, most=12):
    """`many` rules of `least` to `most` places, the same ones at each call."""
    chance = random.Random(seed)
    return [
        tuple(chance.randint(0, place) for place in range(chance.randint(least, most)))
        for _ in range(many)
    ]


def some_order(chance, n):
    """An order of n letters."""
    letters = list(range(n))
    chance.shuffle(letters)
    return tuple(letters)


def some_text(chance, n, length):
    """A text of n letters with `length` of them."""
    return tuple(chance.randrange(n) for _ in range(length))


class Case(unittest.TestCase):
    """A test case to which True is not 1, a list no tuple, and an error no kin of it."""

    def exact(self, got, wanted):
        """got is wanted, the kinds of all values within counted."""
        self.assertEqual(repr(got), repr(wanted))

    def raises(self, wanted, call, *given, **named):
        """call raises an error of just the class of wanted, with the same fields."""
        with self.assertRaises(ListError) as caught:
            call(*given, **named)
        self.assertIs(caught.exception.__class__, wanted.__class__)
        self.exact(vars(caught.exception), vars(wanted))

    def keeps(self, call, *given):
        """call, also where it raises, leaves what it is handed as it was."""
        before = copy.deepcopy(given)
        try:
            call(*given)
        except ListError:
            pass
        self.exact(given, before)

    def holds(self, examples, **names):
        """Each example, written as in the document, tells just what stands below it."""
        lines = [line.strip() for line in examples.strip().splitlines()]
        counted = 0
        for line, below in zip(lines, lines[1:] + [""]):
            if not line.startswith(">>> "):
                continue
            source = line[4:]
            if below == "" or below.startswith(">>> "):
                exec(source, names)
            elif below.startswith("raises "):
                wanted = eval(below[len("raises "):], vars(errors))
                self.raises(wanted, lambda: eval(source, names))
                counted += 1
            else:
                self.assertEqual(repr(eval(source, names)), below, source)
                counted += 1
        self.assertGreater(counted, 0)
