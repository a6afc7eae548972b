"""Answers to the questions of a book, beside the functions that they are told by."""

import random

from forwardlists.answers import answered
from forwardlists.bounds import MAX_TEXT
from forwardlists.rules import front
from tests.bookwords import FORMS, NAMES, answer_of, some_book
from tests.cases import STAYING, Case, rules_up_to, some_order, some_text
from tests.test_books import FULL, SMALL


def asked_of(book, *questions):
    """The answers to these questions, asked of a book."""
    return answered(book[:5] + (questions,))


class Examples(Case):
    def test_examples(self):
        self.holds("""
            >>> small = (("a", "b", "c"), (0, 0, 1), (("start", (2, 0, 1)),), (("t", ("0", "10", "110")),), (("one", (0, 1, 1, 0)), ("nil", ())), (("cost", "one", "start"), ("bits", "one", "t", "start")))
            >>> from forwardlists.booktexts import read_book
            >>> book = read_book("letters red tan;rule 0 0;text x:tan tan red;ask summary x;order up:red tan;table w: 0 1;ask read 01 0 by w from up;ask class;")
            >>> from forwardlists.answers import answered
            >>> answered(small), answered(book)
            (('5', '101101010'), ('0 first tan red last tan red', 'red tan tan', '2'))
            >>> more = small[:2] + (small[2] + (("plain", (0, 1, 2)),),) + small[3:5]
            >>> answered(more + ((("places", "one", "start"), ("behind", "one", "start"), ("best", "one", "start"), ("read", "101101010", "t", "plain"), ("read", "1011", "t", "plain"), ("places", "nil", "plain")),))
            ('1 2 1 1', 'a b c', '5', 'b c c b', 'error BadStream', 'none')
            >>> answered(more + ((("class",), ("comes", "start", "plain"), ("meet", "plain", "start"), ("gap", "start", "plain"), ("summary", "one"), ("span", "one"), ("alike", "one", "nil"), ("fixed", "one", "start"), ("least", "one", "start")),))
            ('6', 'yes', 'yes', 'error Unfit', '1 first a b last b a', '2 5', 'no', '6', '3')
        """)


class Answers(Case):
    def check(self, book):
        """All answers of a book are those of the functions; returns them."""
        told = answered(book)
        self.exact(told, tuple(answer_of(book, question) for question in book[5]))
        return told

    def test_some_books_with_each_sort_of_question(self):
        chance = random.Random(251)
        words = set()
        for _ in range(200):
            book = some_book(chance)
            self.check(book)
            words.update(question[0] for question in book[5])
        self.assertEqual(words, set(FORMS))

    def test_all_rules_of_one_to_four_places(self):
        chance = random.Random(252)
        for rule in rules_up_to(4):
            n = len(rule)
            book = some_book(chance, n)
            orders = tuple((name, some_order(chance, n)) for name in NAMES[:3])
            asks = [(word, NAMES[0], NAMES[at]) for word in ("comes", "meet", "gap") for at in (0, 1, 2)] + [("class",)]
            letters = tuple("abcd"[:n])
            self.check((letters, rule, orders, (), (), tuple(asks)))
            self.check((book[0], rule) + book[2:])

    def test_no_questions(self):
        self.exact(answered(SMALL[:5] + ((),)), ())
        self.assertEqual(len(answered(FULL)), len(FORMS))
        self.check(FULL)

    def test_where_there_would_be_nothing_at_all(self):
        told = asked_of(
            SMALL, ("places", "nil", "start"), ("cost", "nil", "start"), ("behind", "nil", "start"),
            ("best", "nil", "start"),
            ("bits", "nil", "t", "start"), ("read", "", "t", "start"), ("summary", "nil"), ("span", "nil"),
            ("alike", "nil", "nil"), ("fixed", "nil", "start"), ("least", "nil", "start"),
        )
        self.exact(told, ("none", "0", "c a b", "0", "none", "none", "0", "0 0", "yes", "0", "0"))

    def test_errors_that_answers_tell(self):
        book = (("a", "b"), (0, 0), (("p", (0, 1)), ("q", (1, 0))), (("w", ("0", "10")),), (), ())
        for figures, wanted in (
            ("0" * MAX_TEXT, " ".join(["a"] * MAX_TEXT)), ("10" * 200, " ".join(["b", "a"] * 100)),
            ("1", "error BadStream"), ("11", "error BadStream"), ("02", "error BadStream"), ("010", "a b"),
        ):
            self.exact(asked_of(book, ("read", figures, "w", "p")), (wanted,))
        # Of a rule with eight places, one of which stays, nothing is told of classes.
        eight = tuple(NAMES[:8])
        orders = (("p", tuple(range(8))), ("q", tuple(range(8))[::-1]))
        told = asked_of(
            (eight, STAYING, orders, (), (), ()), ("class",), ("comes", "p", "p"), ("meet", "p", "q"),
            ("gap", "p", "p"),
        )
        self.exact(told, ("error TooMany", "error TooMany", "error TooMany", "error Unfit"))
        # By a front rule whose blocks hold other letters there is no gap.
        book = (("a", "b"), (0, 1)) + book[2:]
        told = asked_of(book, ("gap", "p", "q"), ("gap", "p", "p"), ("comes", "p", "q"))
        self.exact(told, ("error Unfit", "0", "no"))

    def test_what_is_told_by_the_front_rule_and_what_by_the_book_s(self):
        chance = random.Random(253)
        by_front = ("summary", "span", "alike", "fixed", "least")
        for _ in range(60):
            book = some_book(chance)
            n = len(book[0])
            other = (book[0], front(n)) + book[2:]
            for question, own, plain in zip(book[5], self.check(book), self.check(other)):
                if question[0] in by_front:
                    self.exact(own, plain)

    def test_long_texts(self):
        chance = random.Random(254)
        for n in (1, 2, 12):
            texts = (("x", some_text(chance, n, 400)), ("y", (n - 1,) * 400))
            orders = (("o", some_order(chance, n)),)
            tables = (("w", ("0" * 40,) if n == 1 else tuple("0" * at + "1" * (40 - at) for at in range(n))),)
            asks = [(word, *[{"T": name, "O": "o", "B": "w"}[sort] for sort in form])
                    for word, form in FORMS.items() for name in "xy" if set(form) <= set("TOB")]
            rule = tuple(chance.randint(0, place) for place in range(n)) if n < 12 else (0,) + tuple(range(11))
            self.check((tuple(NAMES[:n]), rule, orders, tables, texts, tuple(asks)))

    def test_equal_calls_and_nothing_is_changed(self):
        self.exact(answered(book=SMALL), answered(SMALL))
        self.keeps(answered, FULL)
