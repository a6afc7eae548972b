"""Texts of books, and books read from them."""

import random

from forwardlists.books import book_error
from forwardlists.booktexts import book_text, read_book
from forwardlists.desks import Desk
from forwardlists.errors import BadOrder, BadRule, BadTable, BadText, ListError, NoName, Taken, TooMany
from tests.bookwords import NAMES, book_fault, lexed, plain_lines, plain_text, some_book, told
from tests.cases import Case, any_values
from tests.test_books import BARE, FULL, SMALL

HEAD = "letters a b; rule 0 0; "


class Examples(Case):
    def test_examples(self):
        self.holds(r"""
            >>> small = (("a", "b", "c"), (0, 0, 1), (("start", (2, 0, 1)),), (("t", ("0", "10", "110")),), (("one", (0, 1, 1, 0)), ("nil", ())), (("cost", "one", "start"), ("bits", "one", "t", "start")))
            >>> from forwardlists.booktexts import book_text, read_book
            >>> book_text(small)
            'letters a b c;\nrule 0 0 1;\norder start: c a b;\ntable t: 0 10 110;\ntext one: a b b a;\ntext nil: none;\nask cost one from start;\nask bits one by t from start;'
            >>> told = "letters red tan;rule 0 0;text x:tan tan red;ask summary x;order up:red tan;ask read 01 0 by w"
            >>> read_book(told)
            raises NoName('w')
            >>> book = read_book("letters red tan;rule 0 0;text x:tan tan red;ask summary x;order up:red tan;table w: 0 1;ask read 01 0 by w from up;ask class;")
            >>> book[4:], book == read_book(book_text(book)), read_book(book_text(small)) == small
            (((('x', (1, 1, 0)),), (('summary', 'x'), ('read', '010', 'w', 'up'), ('class',))), True, True)
            >>> read_book("letters a b; rule 0 2;")
            raises BadRule(('place', 1))
            >>> read_book("letters a b; rule 0 00;")
            raises BadText(20)
            >>> read_book("letters a b; rule 0;")
            raises BadText(19)
            >>> read_book("letters a b; rule 0 0; order x: b b;")
            raises BadOrder(('twice', 1))
            >>> read_book("letters a b; rule 0 0; table x: 0 2;")
            raises BadTable(('word', 1))
            >>> read_book("letters a b; rule 0 0; text a: b;")
            raises Taken('a')
            >>> read_book("letters a b; rule 0 0; ask cost x from y;")
            raises NoName('x')
            >>> read_book("letters a b; rule 0 0")
            raises BadText(21)
        """)


class Reading(Case):
    """A case that reads books beside the document's words."""

    def check(self, value):
        """value tells the book, or has the fault, that the document's words tell; returns it."""
        wanted = told(value)
        if isinstance(wanted, ListError):
            self.raises(wanted, read_book, value)
        else:
            self.exact(read_book(value), wanted)
            self.exact(book_error(wanted), None)
        return wanted


class Writing(Reading):
    def round(self, book):
        """The text of a book is as told, and tells the book."""
        text = book_text(book)
        self.exact(text, plain_text(book))
        self.exact(read_book(text), book)
        self.check(text)

    def test_each_sort_of_question(self):
        for book in (SMALL, FULL, BARE):
            self.round(book)
            for question in book[5]:
                self.round(book[:5] + ((question,),))

    def test_some_books(self):
        chance = random.Random(241)
        for _ in range(150):
            self.round(some_book(chance))

    def test_each_number_of_letters(self):
        chance = random.Random(242)
        for n in range(1, 13):
            for _ in range(4):
                self.round(some_book(chance, n, 9))

    def test_figures_in_rows(self):
        for many in (0, 1, 39, 40, 41, 79, 80, 81, 399, 400):
            figures = ("0123456789" * 40)[:many]
            book = FULL[:5] + ((("read", figures, "w", "q"),),)
            self.round(book)
            rows = book_text(book).split("\n")[-1]
            self.exact(len(rows), len("ask read  by w from q;") + (many + (many - 1) // 40 if many else 4))

    def test_a_book_as_great_as_can_be(self):
        letters = tuple(name + "zzzzzz" for name in NAMES[:12])
        orders = tuple((name, tuple(range(12))) for name in NAMES[12:21])
        tables = tuple((name, tuple("0" * at + "1" * (40 - at) for at in range(12))) for name in NAMES[21:30])
        texts = tuple((name, (11,) * 400) for name in NAMES[30:40])
        asks = (("read", "1" * 400, NAMES[21], NAMES[12]),) * 40
        book = (letters, (0,) * 12, orders, tables, texts, asks)
        self.exact(book_error(book), None)
        self.round(book)

    def test_nothing_is_changed(self):
        self.exact(book_text(book=BARE), "letters a;\nrule 0;")
        self.exact(read_book(value="letters a;rule 0;"), BARE)
        self.keeps(book_text, FULL)
        self.keeps(read_book, [HEAD])


class Telling(Reading):
    def test_other_blanks_and_line_feeds(self):
        chance = random.Random(243)
        for _ in range(60):
            book = some_book(chance)
            pieces = []
            ahead = ""
            for sort, text, _ in lexed(plain_text(book))[:-1]:
                # Between two words, and between two rows of figures, something has to stand.
                least = 1 if sort == ahead and sort != "sign" else 0
                pieces.append("".join(chance.choice(" \n") for _ in range(chance.randint(least, 3))))
                pieces.append(text)
                ahead = sort
            value = "".join(pieces) + chance.choice(("", " ", "\n \n"))
            self.exact(read_book(value), book)
            self.check(value)

    def test_put_among_one_another_otherwise(self):
        chance = random.Random(244)
        for _ in range(80):
            book = some_book(chance)
            lines = plain_lines(book)
            head, rest = lines[:2], lines[2:]
            sorts = {}
            for line in rest:
                sorts.setdefault(line.split(" ")[0], []).append(line)
            asks = sorts.pop("ask", [])
            mixed = []
            while any(sorts.values()):
                mixed.append(sorts[chance.choice([sort for sort in sorts if sorts[sort]])].pop(0))
            # Each question as early as its names stand, and behind the questions ahead of it.
            at = 0
            for line, question in zip(asks, book[5]):
                names = [f" {name}:" for name in question[1:] if question[0] != "read" or name != question[1]]
                places = [place for place, other in enumerate(mixed) if any(name in other for name in names)]
                at = max([at] + [place + 1 for place in places])
                mixed.insert(at, line)
                at += 1
            value = "\n".join(head + mixed)
            self.exact(read_book(value), book)
            self.check(value)

    def test_figures_behind_read_are_put_together(self):
        head = HEAD + "order o: a b; table w: 0 1; "
        for rows, figures in (("none", ""), ("0", "0"), ("0 1 1", "011"), ("00 1\n0", "0010"), ("9 " * 400, "9" * 400)):
            book = self.check(head + f"ask read {rows} by w from o;")
            self.exact(book[5], (("read", figures, "w", "o"),))

    def test_nothing_behind_the_rule(self):
        self.exact(self.check("letters a b;rule 0 1;"), (("a", "b"), (0, 1), (), (), (), ()))


class Faults(Reading):
    TEXT = (
        "letters a b c; rule 0 0 1; order s: c a b; table t: 0 10 110; text n: none; text o: a b b; order r: b a c;"
        " ask places o from s; ask bits n by t from r; ask read 01 10 by t from s; ask read none by t from r;"
        " ask class; ask comes r s; ask alike n o; ask span o;"
    )
    OTHERS = (
        "a", "d", "s", "t", "o", "letters", "rule", "order", "table", "text", "ask", "none", "from", "by", "read",
        "cost", "class", "meet", "summary", ";", ":", "0", "1", "2", "11", "12", "01", "00", "_", "abcdefghi", "0" * 41,
        "A", "",
    )

    def row(self):
        return [text for _, text, _ in lexed(self.TEXT)[:-1]]

    def test_the_text_itself(self):
        self.assertNotIsInstance(self.check(self.TEXT), ListError)
        self.assertNotIsInstance(self.check(" ".join(self.row())), ListError)

    def test_each_token_left_out_doubled_and_exchanged_with_the_next_one(self):
        row = self.row()
        found = set()
        for at in range(len(row)):
            turned = row[at:at + 2][::-1]
            for changed in ([], [row[at]] * 2):
                found.add(type(self.check(" ".join(row[:at] + changed + row[at + 1:]))))
            found.add(type(self.check(" ".join(row[:at] + turned + row[at + 2:]))))
        self.assertEqual({BadText, Taken, tuple}, found)

    def test_another_token_in_the_place_of_each_and_ahead_of_each(self):
        row = self.row()
        found = set()
        for at in range(len(row)):
            for other in self.OTHERS:
                found.add(type(self.check(" ".join(row[:at] + [other] + row[at + 1:]))))
                found.add(type(self.check(" ".join(row[:at] + [other] + row[at:]))))
        self.assertLessEqual({BadText, Taken, NoName, BadRule, BadOrder, BadTable, tuple}, found)

    def test_cut_short_and_spoilt_at_each_place(self):
        for at in range(len(self.TEXT) + 1):
            self.check(self.TEXT[:at])
            self.check(self.TEXT[at:])
            self.check(self.TEXT[:at] + self.TEXT[at + 1:])
            for sign in " ;:a0_\n":
                self.check(self.TEXT[:at] + sign + self.TEXT[at:])

    def test_two_faults_at_once(self):
        chance = random.Random(245)
        for _ in range(3000):
            row = self.row()
            for _ in range(chance.randint(2, 3)):
                at = chance.randrange(len(row))
                row[at:at + chance.randint(0, 2)] = chance.choice(([], [chance.choice(self.OTHERS)]))
            self.check(" ".join(row))

    def test_tokens_in_any_order(self):
        chance = random.Random(246)
        row = self.row()
        for _ in range(300):
            chance.shuffle(row)
            self.check(" ".join(row))
            self.check(HEAD + " ".join(row))

    def test_the_first_from_the_left(self):
        # A fault is told of as soon as it is come to, whatever is wrong behind it, a token that is none too.
        for text, error in (
            ("letters a a _", Taken("a")), ("letters a _ a", BadText(10)), ("letters a abcdefghi", BadText(10)),
            ("letters a b; rule 0 2; _", BadRule(("place", 1))), ("letters a b; rule 1 2 _", BadText(22)),
            (HEAD + "order x: c _", NoName("c")), (HEAD + "order x: a a; _", BadOrder(("twice", 1))),
            (HEAD + "order x: a a _", BadText(len(HEAD) + 13)), (HEAD + "table x: 0 0; _", BadTable(("begins", 0, 1))),
            (HEAD + "ask cost x _", NoName("x")), (HEAD + "text x: a; ask cost x from a; _", NoName("a")),
        ):
            self.raises(error, read_book, text)
            self.check(text)

    def test_what_cannot_stand_there_comes_first_at_one_token(self):
        # A thirteenth name of letters, a name too many in an order, also one that stands ahead or is no letter's.
        letters = "letters " + " ".join(NAMES[:12])
        for thirteenth in ("z", NAMES[0], "none", "0"):
            self.raises(BadText(len(letters) + 1), read_book, letters + " " + thirteenth + ";")
            self.check(letters + " " + thirteenth + ";")
        for third in ("a", "z", "none", "0", ":"):
            text = HEAD + "order x: a b "
            self.raises(BadText(len(text)), read_book, text + third + ";")
            text = HEAD + "table x: 0 1 "
            self.raises(BadText(len(text)), read_book, text + third + ";")
        # A keyword is no name, whatever would be told of a name.
        for word in ("class", "none", "by"):
            for text in ("order ", "table ", "text ", "order x: ", "text x: a ", "ask cost ", "ask comes "):
                self.raises(BadText(len(HEAD + text)), read_book, HEAD + text + word + ";")
        self.check(HEAD + "text x: none a;")
        self.check(HEAD + "text x: ;")

    def test_a_name_is_there_when_its_line_has_been_read(self):
        for text, error in (
            ("order x: x b;", NoName("x")), ("text x: a x;", NoName("x")), ("ask span x; text x: a;", NoName("x")),
            ("text x: a; ask cost x from x;", NoName("x")), ("order x: a b; ask span x;", NoName("x")),
            ("table x: 0 1; ask comes x x;", NoName("x")), ("order x: a b; order x: b a;", Taken("x")),
            ("order x: a b; table x: 0 1;", Taken("x")), ("table x: 0 1; text x: a;", Taken("x")),
            ("order b: a b;", Taken("b")), ("ask span a;", NoName("a")), ("order x: a b; text y: x;", NoName("x")),
        ):
            self.raises(error, read_book, HEAD + text)
            self.check(HEAD + text)

    def test_numbers_of_the_rule(self):
        for n in (1, 2, 12):
            letters = "letters " + " ".join(NAMES[:n]) + "; rule "
            for number in ("0", "1", "9", "10", "11", "12", "99", "00", "01", "0" * 40, "0" * 41, "a", ":", ";", ""):
                for at in range(n + 1):
                    row = ["0"] * n
                    row.insert(at, number)
                    self.check(letters + " ".join(row) + ";")
                    self.check(letters + " ".join(row[:at] + [number] + row[at + 2:]) + ";")
        self.raises(BadText(len("letters a; rule ")), read_book, "letters a; rule 12;")
        self.raises(BadRule(("place", 0)), read_book, "letters a; rule 11;")

    def test_how_many_names(self):
        lines = ["letters a b;", "rule 0 0;"] + [f"text {name}: a;" for name in NAMES[:38]]
        self.assertEqual(len(self.check("".join(lines))[4]), 38)
        for line, error in (
            ("order z: a b;", TooMany(40)), ("table z", TooMany(40)), ("text z _", TooMany(40)),
            ("text a: b;", Taken("a")), (f"order {NAMES[37]}", Taken(NAMES[37])), ("text none: a;", None),
            ("ask class;", None),
        ):
            value = "".join(lines) + line
            self.check(value)
            if error is not None:
                self.raises(error, read_book, value)

    def test_how_many_questions(self):
        for many in (39, 40, 41):
            value = HEAD + "ask class;" * many
            self.check(value)
            if many == 41:
                self.raises(TooMany(40), read_book, value)
        self.raises(TooMany(40), read_book, HEAD + "ask class;" * 40 + "ask _")
        self.raises(TooMany(40), read_book, HEAD + "ask class;" * 40 + "ask")
        self.raises(BadText(len(HEAD) + 400), read_book, HEAD + "ask class;" * 40 + "as")

    def test_how_many_letters_a_text_has(self):
        for many in (399, 400, 401, 402):
            value = HEAD + "text x:" + " a" * many + ";"
            self.check(value)
            if many > 400:
                self.raises(TooMany(400), read_book, value)
        self.raises(TooMany(400), read_book, HEAD + "text x:" + " a" * 401)
        self.raises(NoName("z"), read_book, HEAD + "text x:" + " a" * 400 + " z")
        self.check(HEAD + "text x:" + " a" * 400 + " none")
        self.check(HEAD + "text x:" + " a" * 400)

    def test_how_many_figures_behind_read(self):
        head = HEAD + "order o: a b; table w: 0 1; ask read "
        for row, many in (("0", 1), ("0" * 40, 40), ("01" * 13, 26)):
            for rows in range(400 // many - 1, 400 // many + 3):
                value = head + " ".join([row] * rows) + " by w from o;"
                self.check(value)
                if rows * many > 400:
                    self.raises(TooMany(400), read_book, value)
        self.raises(TooMany(400), read_book, head + " ".join(["0" * 40] * 10) + " 0")
        self.raises(BadText(len(head) + 410), read_book, head + " ".join(["0" * 40] * 10) + " " + "0" * 41)
        self.check(head + "by w from o;")
        self.check(head + "none 0 by w from o;")
        self.check(head + "0 none by w from o;")

    def test_any_value(self):
        for value in any_values() + [FULL, [HEAD], (HEAD,)]:
            self.check(value)
            self.keeps(read_book, value)
        self.raises(BadText(0), read_book, Desk(2))

    def test_long_values(self):
        for value in ("letters " * 2500, HEAD + "order " * 3000, HEAD + "text x: " + "a " * 9000, ";" * 20000):
            self.check(value)
        self.check(" " * 20000)

    def test_what_is_read_is_a_book(self):
        for value in (HEAD, self.TEXT, book_text(FULL)):
            self.exact(book_fault(read_book(value)), None)
