"""Books: what is one, and what is found in it by its name."""

import random

from forwardlists.books import book_error, order_in, table_in, text_in
from forwardlists.desks import Desk
from forwardlists.errors import NoName
from tests.bookwords import FORMS, NAMES, WORDS, book_fault, some_book
from tests.cases import Case, any_values
from tests.changing import changed_once, some_change

SMALL = (
    ("a", "b", "c"), (0, 0, 1), (("start", (2, 0, 1)),), (("t", ("0", "10", "110")),),
    (("one", (0, 1, 1, 0)), ("nil", ())), (("cost", "one", "start"), ("bits", "one", "t", "start")),
)
# A book with a question of each sort, and what these name.
THINGS = {"T": "x", "O": "p", "B": "w", "S": "0101"}
FULL = (
    ("a", "b"), (0, 0), (("p", (1, 0)), ("q", (0, 1))), (("w", ("1", "01")),), (("x", (1, 1, 0)), ("y", ())),
    tuple((word, *[THINGS[sort] for sort in form]) for word, form in FORMS.items()),
)
BARE = (("a",), (0,), (), (), (), ())


class Examples(Case):
    def test_examples(self):
        self.holds("""
            >>> from forwardlists.books import book_error, order_in, table_in, text_in
            >>> small = (("a", "b", "c"), (0, 0, 1), (("start", (2, 0, 1)),), (("t", ("0", "10", "110")),), (("one", (0, 1, 1, 0)), ("nil", ())), (("cost", "one", "start"), ("bits", "one", "t", "start")))
            >>> [book_error(value) for value in (small, small[:5], ((),) + small[1:], (("a", "b", "a"),) + small[1:], small[:1] + ((0, 0),) + small[2:], small[:2] + ((("start", (0, 1)),),) + small[3:])]
            [None, 'form', 'form', ('letter', 2), 'rule', ('order', 0)]
            >>> [book_error(value) for value in (small[:3] + ((("a", ("0", "10", "110")),),) + small[4:], small[:4] + ((("one", (3,)),), ()), small[:5] + ((("class",), ("cost", "start", "one")),), list(small))]
            [('table', 0), ('text', 0), ('ask', 1), 'form']
            >>> order_in(small, "start"), table_in(small, "t"), text_in(small, "nil")
            ((2, 0, 1), ('0', '10', '110'), ())
            >>> order_in(small, "one")
            raises NoName('one')
        """)


class BookError(Case):
    def check(self, value):
        self.exact(book_error(value), book_fault(value))

    def test_right_books(self):
        chance = random.Random(231)
        for value in (SMALL, FULL, BARE):
            self.exact(book_error(value), None)
        for _ in range(150):
            book = some_book(chance)
            self.exact(book_fault(book), None)
            self.exact(book_error(book), None)

    def test_one_part_changed(self):
        found = set()
        for book in (SMALL, FULL, BARE):
            for value in changed_once(book):
                self.check(value)
                wrong = book_error(value)
                found.add(wrong[0] if type(wrong) is tuple else wrong)
        self.assertEqual(found, {None, "form", "letter", "rule", "order", "table", "text", "ask"})

    def test_two_and_more_parts_changed(self):
        chance = random.Random(232)
        for _ in range(4000):
            value = chance.choice((SMALL, FULL))
            for _ in range(chance.randint(2, 4)):
                value = some_change(chance, value)
            self.check(value)

    def with_part(self, at, part, book=SMALL):
        return book[:at] + (part,) + book[at + 1:]

    def test_what_is_wrong_first(self):
        wrong = {
            "letter": (0, ("a", "B", "c")), "rule": (1, (0, 0)), "order": (2, (("start", (2, 0)),)),
            "table": (3, (("t", ("0",)),)), "text": (4, (("one", (3,)),)), "ask": (5, (("cost",),)),
        }
        told = list(wrong)
        for first, word in enumerate(told):
            value = SMALL
            for other in told[first:]:
                value = self.with_part(*wrong[other], value)
            given = book_error(value)
            self.exact(given if type(given) is str else given[0], word)
            self.check(value)
            # Whatever else is wrong, a part that is no tuple is told of first.
            for at in range(6):
                self.exact(book_error(self.with_part(at, list(value[at]), value)), "form")
        self.exact(book_error(self.with_part(0, (), SMALL)), "form")

    def test_a_name_stands_once_in_the_whole_book(self):
        for name in ("a", "start", "t", "one", "nil"):
            self.check(self.with_part(2, SMALL[2] + ((name, (0, 1, 2)),)))
            self.check(self.with_part(3, SMALL[3] + ((name, ("0", "10", "11")),)))
            self.check(self.with_part(4, SMALL[4] + ((name, ()),)))
            self.check(self.with_part(0, ("a", name, "c")))
        self.exact(book_error(self.with_part(4, SMALL[4] + (("t", ()),))), ("text", 2))
        self.exact(book_error(self.with_part(3, SMALL[3] + (("one", ("0", "10", "11")),))), ("text", 0))
        self.exact(book_error(self.with_part(2, SMALL[2] + (("start", (0, 1, 2)),))), ("order", 1))

    def test_what_is_no_name(self):
        for name in WORDS + ("", "A", "a1", "a b", "abcdefghi", None, 5, ("p",), ["p"], Desk(2)):
            self.exact(book_error(self.with_part(0, ("a", name, "c"))), ("letter", 1))
            self.exact(book_error(self.with_part(2, ((name, (0, 1, 2)),))), ("order", 0))
            self.exact(book_error(self.with_part(3, ((name, ("0", "10", "11")),))), ("table", 0))
            self.exact(book_error(self.with_part(4, SMALL[4] + ((name, ()),))), ("text", 2))

    def test_questions_that_name_other_sorts(self):
        things = {"T": "one", "O": "start", "B": "t", "S": "012"}
        for word, form in FORMS.items():
            question = (word, *[things[sort] for sort in form])
            self.exact(book_error(self.with_part(5, (question,))), None)
            for at in range(len(form)):
                for item in ("a", "one", "start", "t", "012", "", "zz", "01x", "none", None, 0, ("one",), Desk(2)):
                    value = self.with_part(5, (("class",), question[:at + 1] + (item,) + question[at + 2:]))
                    self.check(value)
                    if item in ("a", "zz", "none", None, 0):
                        self.exact(book_error(value), ("ask", 1))
            for wrong in (question[:-1], question + ("one",), list(question), ("ask",) + question[1:], question[1:]):
                self.check(self.with_part(5, (wrong,)))

    def test_words_that_are_no_questions(self):
        for word in WORDS + ("", "Cost", "foo", None, 0, ("class",), ["class"], {}, Desk(2)):
            if type(word) is not str or word not in FORMS:
                self.exact(book_error(self.with_part(5, (("class",), (word,)))), ("ask", 1))
                self.exact(book_error(self.with_part(5, ((word, "one", "start"),))), ("ask", 0))

    def test_how_many_letters(self):
        for many in range(15):
            book = (tuple(NAMES[:many]), (0,) * many, (), (), (), ())
            self.exact(book_error(book), None if 1 <= many <= 12 else "form")

    def test_how_many_names(self):
        for many in (27, 28, 29, 30):
            for at, item in ((2, tuple(range(12))), (3, tuple("1" * at + "0" for at in range(12))), (4, (0, 11))):
                book = (tuple(NAMES[:12]), (0,) * 12, (), (), (), ())
                book = self.with_part(at, tuple((name, item) for name in NAMES[12:12 + many]), book)
                self.exact(book_error(book), None if many <= 28 else "many")
        # Counted together.
        book = (("a",), (0,), *[tuple((name, item) for name in NAMES[at:at + 13])
                                for at, item in ((0, (0,)), (20, ("0",)), (40, ()))], ())
        self.exact(book_error(book), None)
        self.exact(book_error(self.with_part(4, book[4] + (("z", ()),), book)), "many")

    def test_how_many_questions(self):
        for many in (0, 1, 39, 40, 41, 100):
            book = self.with_part(5, (("class",),) * many)
            self.exact(book_error(book), None if many <= 40 else "many")
        # A question that is none is told of first, however many there are.
        self.exact(book_error(self.with_part(5, (("class",),) * 41 + (("cost",),))), ("ask", 41))

    def test_how_many_figures_and_letters(self):
        for many in (0, 1, 399, 400, 401):
            value = self.with_part(5, (("read", "0" * many, "t", "start"),))
            self.exact(book_error(value), None if many <= 400 else ("ask", 0))
            value = self.with_part(4, SMALL[4] + (("long", (2,) * many),))
            self.exact(book_error(value), None if many <= 400 else ("text", 2))
        for many in (40, 41):
            value = self.with_part(3, SMALL[3] + (("u", ("0", "10", "11" + "1" * (many - 2))),))
            self.exact(book_error(value), None if many == 40 else ("table", 1))

    def test_true_is_no_letter_and_no_place(self):
        self.exact(book_error(self.with_part(1, (0, False, 1))), "rule")
        self.exact(book_error(self.with_part(2, (("start", (2, 0, True)),))), ("order", 0))
        self.exact(book_error(self.with_part(4, (("one", (0, True)),))), ("text", 0))

    def test_any_value(self):
        for value in any_values():
            self.check(value)
            self.keeps(book_error, value)
            for at in range(6):
                self.check(self.with_part(at, value))
                if at != 1:
                    self.check(self.with_part(at, SMALL[at] + (value,)))
                if at > 1:
                    self.check(self.with_part(at, SMALL[at] + (("zz", value),)))
                    self.check(self.with_part(at, SMALL[at] + ((value, value),)))
        self.exact(book_error(Desk(3)), "form")


class Lookups(Case):
    def test_each_name_of_each_sort(self):
        for book in (SMALL, FULL, BARE):
            names = list(book[0]) + [name for part in book[2:5] for name, _ in part]
            names += ["zz", "", "a b", "class", "x" * 300]
            for name in names:
                for look, at in ((order_in, 2), (table_in, 3), (text_in, 4)):
                    things = dict(book[at])
                    if name in things:
                        self.exact(look(book, name), things[name])
                    else:
                        self.raises(NoName(name), look, book, name)

    def test_by_name_and_nothing_is_changed(self):
        self.exact(order_in(book=SMALL, name="start"), (2, 0, 1))
        self.exact(table_in(book=SMALL, name="t"), ("0", "10", "110"))
        self.exact(text_in(book=SMALL, name="one"), (0, 1, 1, 0))
        self.raises(NoName("t"), text_in, book=SMALL, name="t")
        self.exact(book_error(value=SMALL), None)
        self.keeps(order_in, SMALL, "t")
