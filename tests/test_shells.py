"""Shells: lines told beside a book and a text that are kept alongside."""

import random
import re

from forwardlists.booktexts import read_book
from forwardlists.desks import Desk
from forwardlists.errors import ListError
from forwardlists.rules import front
from forwardlists.shells import Shell
from forwardlists.summing import cost_from, least_from, most_from
from tests.bookwords import NAMES, WORDS, answer_of, book_fault, error_name, named, plain_text, question_told
from tests.bookwords import question_words, some_book, some_questions, spelled, told
from tests.cases import Case, any_values
from tests.plain import Plain
from tests.sums import summed

INT = "(0|[1-9][0-9]{0,2})"
NAME = "([a-z]{1,8})"
LINES = {
    "insert": (INT, NAME), "erase": (INT, INT), "move": (INT, INT, INT), "undo": (), "redo": (), "keep": (NAME,),
    "show": (), "answers": (), "text": (), "length": (), "span": (), "cost": (NAME,), "behind": (NAME,),
    "part": (INT, INT, NAME),
}
SOME = "letters a b c;rule 0 0 1;order start:c a b;order plain:a b c;table t:0 10 110;text one:a b b a;text nil:none;"


class Refused(Exception):
    """A line that is told an error; carries the error's name."""


class Beside:
    """What a shell keeps, and tells, by the words of the document."""

    def __init__(self):
        self.book = None
        self.plain = None

    def say(self, line):
        if type(line) is not str:
            return "what"
        found = re.fullmatch("(book|ask) (.*)", line, re.DOTALL)
        if found is not None:
            word, given = found.group(1), [found.group(2)]
            if word == "ask" and ";" in given[0]:
                return "what"
        else:
            word = line.split(" ")[0]
            if word not in LINES:
                return "what"
            found = re.fullmatch(" ".join((word,) + LINES[word]), line)
            if found is None:
                return "what"
            given = [int(part) if part[0] in "0123456789" else part for part in found.groups()]
            if any(part in WORDS for part in given):
                return "what"
        if self.book is None and word != "book":
            return "no book"
        try:
            return getattr(self, "do_" + word)(*given)
        except Refused as refused:
            return "error " + refused.args[0]

    def named(self, at, name):
        for given, thing in self.book[at]:
            if given == name:
                return thing
        raise Refused("NoName")

    def passed(self, value):
        """value, if it is no error."""
        if isinstance(value, ListError):
            raise Refused(error_name(value))
        return value

    def edit(self, *edit):
        return f"version {self.passed(self.plain.do(edit))}"

    def do_book(self, text):
        self.book = self.passed(told(text))
        self.plain = Plain(len(self.book[0]))
        return "version 0"

    def do_insert(self, at, name):
        return self.edit("insert", at, self.named(4, name))

    def do_erase(self, begin, end):
        return self.edit("erase", begin, end)

    def do_move(self, begin, end, to):
        return self.edit("move", begin, end, to)

    def do_undo(self):
        return f"version {self.passed(self.plain.step(-1))}"

    def do_redo(self):
        return f"version {self.passed(self.plain.step(1))}"

    def do_keep(self, name):
        names = list(self.book[0]) + [given for part in self.book[2:5] for given, _ in part]
        if name in names:
            raise Refused("Taken")
        if len(names) == 40:
            raise Refused("TooMany")
        self.book = self.book[:4] + (self.book[4] + ((name, self.plain.text),), self.book[5])
        return f"texts {len(self.book[4])}"

    def do_show(self):
        return plain_text(self.book)

    def do_answers(self):
        return "\n".join(answer_of(self.book, question) for question in self.book[5]) or "none"

    def do_ask(self, text):
        return answer_of(self.book, self.passed(question_told(self.book, text)))

    def do_text(self):
        return spelled(self.book, self.plain.text)

    def do_length(self):
        return str(len(self.plain.text))

    def do_span(self):
        sums, n = summed(self.plain.text), self.plain.n
        return f"{least_from(n, sums)} {most_from(n, sums)}"

    def do_cost(self, name):
        return str(cost_from(summed(self.plain.text), self.named(2, name)))

    def do_behind(self, name):
        order = self.named(2, name)
        return spelled(self.book, tuple(dict.fromkeys(self.plain.text[::-1] + order)))

    def do_part(self, begin, end, name):
        order = self.named(2, name)
        if self.plain.bad_part(begin, end):
            raise Refused("Unfit")
        return str(cost_from(summed(self.plain.text[begin:end]), order))


# Lines that look, and change nothing.
LOOKS = ("show", "answers", "text", "length", "span", "cost start", "behind start", "part 0 0 start", "ask class")


def some_line(chance, beside):
    """A line for a shell that keeps what stands beside it; now and then one that is refused."""
    book, length = beside.book, len(beside.plain.text)
    names = [name for part in book[2:5] for name, _ in part] + ["zz", book[0][0], "none"]
    texts = [name for name, _ in book[4]] + [chance.choice(names)]
    orders = [name for name, _ in book[2]] + [chance.choice(names)]
    begin = chance.randint(0, length)
    end = chance.randint(begin, length)
    if chance.random() < 0.1:
        begin, end = chance.randint(0, 999), chance.randint(0, 999)
    questions = some_questions(chance, book)
    question = " ".join(question_words(chance.choice(questions))) if questions else "span zz"
    return chance.choice((
        f"insert {begin} {chance.choice(texts)}", f"insert {begin} {chance.choice(texts)}",
        f"insert {begin} {chance.choice(texts)}", f"erase {begin} {min(end, begin + 9)}",
        f"move {begin} {end} {chance.randint(0, max(length - (end - begin), 0))}", "undo", "undo", "redo",
        f"keep {chance.choice(NAMES + ['zz'])}", "show", "answers", "text", "length", "span",
        f"cost {chance.choice(orders)}", f"behind {chance.choice(orders)}",
        f"part {begin} {end} {chance.choice(orders)}",
        f"ask {question}", f"ask {question} x", f"ask {question}".replace(" from ", "\n from  "),
    ))


class Shells(Case):
    """A case that tells lines to a shell and beside it."""

    def says(self, shell, beside, line):
        answer = shell.say(line)
        self.exact(answer, beside.say(line))
        return answer

    def begun(self, text=SOME, *lines):
        """A shell with this book, what stands beside it, both told these lines."""
        shell, beside = Shell(), Beside()
        for line in ("book " + text,) + lines:
            answer = self.says(shell, beside, line)
            self.assertNotIn(answer.split(" ")[0], ("error", "what", "no"))
        return shell, beside

    def state(self, shell):
        """All that looking tells."""
        return [shell.say(line) for line in LOOKS + ("cost plain", "ask alike one nil")]


class Examples(Case):
    def test_examples(self):
        self.holds(r"""
            >>> from forwardlists.shells import Shell
            >>> s = Shell()
            >>> [s.say(line) for line in ("show", "book letters a b c;rule 0 0 1;order start:c a b;text one:a b b a;", "text", "insert 0 one", "insert 2 one", "text", "cost start", "behind start", "span")]
            ['no book', 'version 0', 'none', 'version 1', 'version 2', 'a b a b b a b a', '8', 'a b c', '6 9']
            >>> [s.say(line) for line in ("erase 0 6", "text", "part 0 1 start", "keep two", "ask cost two from start", "ask cost one from start", "undo", "length", "redo", "ask alike one two")]
            ['version 3', 'b a', '2', 'texts 2', '4', '5', 'version 2', '8', 'version 3', 'no']
            >>> [s.say(line) for line in ("keep one", "insert 9 one", "insert 0 three", "cost two", "ask class", "ask cost one", "book letters a b;rule 0 2;", "length", "answers", "erase 00 1", "ask class;", 5)]
            ['error Taken', 'error Unfit', 'error NoName', 'error NoName', '6', 'error BadText', 'error BadRule', '2', 'none', 'what', 'what', 'what']
            >>> s.say("show")
            'letters a b c;\nrule 0 0 1;\norder start: c a b;\ntext one: a b b a;\ntext two: b a;'
        """)


class Lines(Shells):
    def test_beside_a_book_and_a_text(self):
        chance = random.Random(261)
        words = set()
        for _ in range(60):
            shell, beside = Shell(), Beside()
            self.says(shell, beside, "book " + plain_text(some_book(chance)))
            for _ in range(60):
                line = some_line(chance, beside)
                words.add((line.split(" ")[0], self.says(shell, beside, line).split(" ")[0] == "error"))
                if chance.random() < 0.02:
                    self.says(shell, beside, "book " + chance.choice((plain_text(some_book(chance)), "letters a", "")))
            self.exact(book_fault(beside.book), None)
            self.exact(read_book(shell.say("show")), beside.book)
        self.assertLessEqual({(word, False) for word in list(LINES) + ["ask"]}, words)
        refused = ("insert", "erase", "move", "undo", "redo", "keep", "ask", "cost", "behind", "part")
        self.assertLessEqual({(word, True) for word in refused}, words)

    def test_each_line_of_a_plain_shell(self):
        shell, beside = self.begun(SOME, "insert 0 one", "insert 4 one", "undo")
        for line in (
            "redo", "undo", "text", "length", "span", "cost start", "behind start", "part 1 3 start", "part 0 4 plain",
            "keep two", "keep three", "show", "answers", "ask class", "ask places two from plain", "move 0 2 2", "text",
            "erase 1 2", "text", "erase 0 3", "text", "length", "span", "keep empty", "show", "insert 0 empty", "undo",
        ):
            self.says(shell, beside, line)

    def test_versions_and_edits_that_are_refused(self):
        shell, beside = self.begun()
        for _ in range(40):
            self.says(shell, beside, "insert 0 one")
        for line, wanted in (
            ("insert 0 one", "error TooManyEdits"), ("insert 0 nil", "error TooManyEdits"),
            ("erase 0 0", "error TooManyEdits"), ("move 0 0 0", "error TooManyEdits"), ("erase 161 161", "error Unfit"),
            ("insert 161 one", "error Unfit"), ("move 0 1 160", "error Unfit"), ("insert 161 two", "error NoName"),
            ("redo", "error NothingToUndo"),
        ):
            self.exact(self.says(shell, beside, line), wanted)
        for _ in range(41):
            last = self.says(shell, beside, "undo")
        self.exact(last, "error NothingToUndo")
        self.exact(self.says(shell, beside, "redo"), "version 1")
        self.exact(self.says(shell, beside, "erase 0 0"), "version 2")
        self.exact(self.says(shell, beside, "redo"), "error NothingToUndo")

    def test_a_text_as_long_as_can_be(self):
        text = "letters a b;rule 0 0;text x:" + " b" * 200 + ";order o:a b;"
        shell, beside = self.begun(text, "insert 0 x", "insert 9 x")
        for line, wanted in (
            ("length", "400"), ("insert 0 x", "error TooMany"), ("insert 401 x", "error Unfit"),
            ("insert 401 y", "error NoName"), ("keep y", "texts 2"), ("ask alike x y", "yes"),
            ("erase 0 1", "version 3"), ("insert 0 y", "error TooMany"),
            ("part 0 399 o", "1"), ("part 0 400 o", "error Unfit"), ("move 0 399 0", "version 4"),
        ):
            self.exact(self.says(shell, beside, line), wanted)

    def test_names_that_stand_for_other_sorts(self):
        shell, beside = self.begun(SOME, "insert 0 one")
        for name in ("one", "nil", "start", "plain", "t", "a", "zz"):
            text = name in ("one", "nil")
            order = name in ("start", "plain")
            self.exact(self.says(shell, beside, f"insert 99 {name}"), "error Unfit" if text else "error NoName")
            self.exact(self.says(shell, beside, f"part 9 8 {name}"), "error Unfit" if order else "error NoName")
            self.assertEqual(self.says(shell, beside, f"cost {name}") == "error NoName", not order)
            self.assertEqual(self.says(shell, beside, f"behind {name}") == "error NoName", not order)
            self.exact(self.says(shell, beside, f"keep {name}"), "texts 3" if name == "zz" else "error Taken")

    def test_keep_names_until_there_is_no_room(self):
        shell, beside = self.begun(SOME, "insert 0 one")
        for at, name in enumerate(NAMES[:32]):
            self.exact(self.says(shell, beside, f"keep {name}"), f"texts {at + 3}")
        for line, wanted in (
            ("keep zz", "error TooMany"), ("keep one", "error Taken"), ("keep a", "error Taken"),
            ("keep start", "error Taken"), ("keep none", "what"), (f"keep {NAMES[31]}", "error Taken"),
            (f"ask alike one {NAMES[31]}", "yes"),
        ):
            self.exact(self.says(shell, beside, line), wanted)

    def test_questions_that_are_asked(self):
        chance = random.Random(262)
        for _ in range(25):
            book = some_book(chance)
            shell, beside = self.begun(plain_text(book))
            wanted = shell.say("answers").split("\n") if book[5] else []
            for question, answer in zip(book[5], wanted):
                # It tells what the book's answers tell, and the book stays as it is.
                self.exact(self.says(shell, beside, "ask " + " ".join(question_words(question))), answer)
            self.exact(shell.say("show"), plain_text(book))

    def test_questions_that_are_none(self):
        shell, beside = self.begun()
        for text, wanted in (
            ("", "error BadText"), (" ", "error BadText"), ("\n", "error BadText"), ("cost", "error BadText"),
            ("cost one", "error BadText"), ("cost one from", "error BadText"),
            ("cost one from start x", "error BadText"),
            ("cost two from start", "error NoName"), ("cost start from one", "error NoName"),
            ("cost one from one", "error NoName"),
            ("what", "error BadText"), ("class class", "error BadText"), ("class:", "error BadText"),
            ("_", "error BadText"),
            ("class _", "error BadText"), ("cost two _", "error NoName"), ("cost _ two", "error BadText"),
            ("read 01 by t from start", "error BadStream"), ("read 012 by t from start", "error BadStream"),
            ("read " + "0 " * 400 + "by t from start", " ".join(["c"] * 400)), ("read " + "0 " * 401, "error TooMany"),
            ("read " + "0" * 41, "error BadText"), ("gap start plain", "error Unfit"), (" class", "6"),
            ("class\n ", "6"),
            ("\nclass", "6"), ("comes  start\nplain", "yes"), ("ask class", "error BadText"), ("class;", "what"),
            (";", "what"), ("class ; ", "what"), ("class;ask class", "what"), ("read none by t from start", "none"),
        ):
            self.exact(self.says(shell, beside, "ask " + text), wanted)

    def test_asking_of_a_book_that_has_forty_questions(self):
        shell, beside = self.begun(SOME + "ask class;" * 40)
        self.exact(self.says(shell, beside, "ask span one"), "2 5")
        self.exact(self.says(shell, beside, "answers"), "\n".join(["6"] * 40))

    def test_answers_of_no_question_of_one_and_of_more(self):
        for asks, wanted in (("", "none"), ("ask class;", "6"), ("ask class;ask bits nil by t from start;", "6\nnone")):
            self.exact(self.says(*self.begun(SOME + asks), "answers"), wanted)

    def test_a_new_book_behind_edits(self):
        shell, beside = self.begun(SOME, "insert 0 one", "keep two", "erase 0 1")
        for line in (
            "book letters p q;rule 0 0;text one:q;", "text", "length", "undo", "redo", "keep two", "insert 0 one",
            "text",
            "show", "cost start", "book letters a", "text", "undo", "book ", "redo", "show", "book " + SOME, "redo",
            "show",
        ):
            self.says(shell, beside, line)


class NoLines(Shells):
    RIGHT = (
        "insert 0 one", "insert 12 nil", "erase 0 1", "move 0 1 100", "undo", "redo", "keep two", "show", "answers",
        "text",
        "length", "span", "cost start", "behind start", "part 0 4 start", "ask class", "ask cost one from start",
        "book letters a b;rule 0 0;",
    )

    def test_lines_with_a_sign_left_out_put_in_or_exchanged(self):
        for line in self.RIGHT:
            shell, beside = self.begun(SOME, "insert 0 one")
            for at in range(len(line) + 1):
                for changed in [line[:at], line[at:], line[:at] + line[at + 1:]] + [
                    line[:at] + sign + line[at + gone:] for sign in " 0a;\n:A-9" for gone in (0, 1)
                ]:
                    self.says(shell, beside, changed)

    def test_lines_told_otherwise(self):
        for line in self.RIGHT:
            shell, beside = self.begun(SOME, "insert 0 one")
            word = line.split(" ")[0]
            for changed in (
                " " + line, line + " ", line + "\n", "\n" + line, line.upper(), line.title(), line.replace(" ", "  "),
                line.replace(" ", "\t"), line.replace(" ", "\n"), line + " 0", line + " one", word, word + " ",
                word + "x",
            ):
                self.says(shell, beside, changed)
            if word not in ("ask", "book"):
                for changed in (" " + line, line + " ", line + "\n", line.upper(), line + " 0", word + " "):
                    self.exact(self.says(shell, beside, changed), "what")
        for line in ("", " ", "\n", "what", "no book", "version 0", "name", "desk", "copy", "insert", "book", "ask"):
            self.exact(self.says(*self.begun(), line), "what")

    def test_integers(self):
        shell, beside = self.begun(SOME, "insert 0 one")
        for number in ("0", "4", "10", "999", "5", "1"):
            for line in (f"insert {number} one", f"erase {number} {number}", f"part {number} {number} start",
                         f"move 0 0 {number}"):
                self.assertNotEqual(self.says(shell, beside, line), "what")
        for number in ("00", "01", "000", "010", "1000", "-1", "+1", "1.0", "one", "", "0x1", " 1", "1_0", "9" * 400):
            for line in (f"insert {number} one", f"erase 0 {number}", f"erase {number} 4", f"part 0 {number} start",
                         f"move 0 0 {number}", f"move {number} 1 1"):
                self.exact(self.says(shell, beside, line), "what")

    def test_names(self):
        shell, beside = self.begun(SOME, "insert 0 one")
        for name in WORDS + ("", "A", "One", "one1", "abcdefghi", "o_e", "one;", "on e", "1"):
            for line in (f"insert 0 {name}", f"keep {name}", f"cost {name}", f"behind {name}", f"part 0 0 {name}"):
                self.exact(self.says(shell, beside, line), "what")
        self.assertTrue(named("abcdefgh"))
        self.exact(self.says(shell, beside, "keep abcdefgh"), "texts 3")

    def test_no_book_yet(self):
        shell, beside = Shell(), Beside()
        for line in self.RIGHT[:-1] + ("insert 999 zz", "ask ", "ask _", "keep a"):
            self.exact(self.says(shell, beside, line), "no book")
        for line in ("ask class;", "insert 00 one", "insert 0 none", "show ", "ask", "book", "Book x", "", "what"):
            self.exact(self.says(shell, beside, line), "what")
        for line, wanted in (("book ", "BadText"), ("book letters a;rule 1;", "BadRule"), ("book  ;", "BadText")):
            self.exact(self.says(shell, beside, line), "error " + wanted)
            self.exact(self.says(shell, beside, "show"), "no book")
        self.exact(self.says(shell, beside, "book \n letters a;rule 0;"), "version 0")

    def test_each_error_of_a_book(self):
        shell, beside = self.begun(SOME, "insert 0 one")
        state = self.state(shell)
        head = "book letters a b;rule 0 0;"
        for line, wanted in (
            ("book letters a a;", "Taken"), (head + "text a:b;", "Taken"), (head + "text x:c;", "NoName"),
            ("book letters a b;rule 0 2;", "BadRule"), (head + "order x:a a;", "BadOrder"),
            (head + "table x:0 0;", "BadTable"),
            (head + "text x:" + " a" * 401 + ";", "TooMany"), (head + "ask class;" * 41, "TooMany"),
            (head + "ask", "BadText"),
        ):
            self.exact(self.says(shell, beside, line), "error " + wanted)
            self.exact(self.state(shell), state)

    def test_values_that_are_no_strings(self):
        for begun in (False, True):
            shell, beside = self.begun() if begun else (Shell(), Beside())
            for value in any_values():
                self.says(shell, beside, value)
                self.keeps(shell.say, value)
            for value in (None, True, 0, ("show",), ["show"], {"show": 1}, Desk(2), Shell(), shell, (shell,)):
                self.exact(shell.say(value), "what")
        self.exact(Shell().say(line="show"), "no book")


class Keeping(Shells):
    def test_looking_errors_and_what_change_nothing(self):
        chance = random.Random(263)
        for _ in range(10):
            book = some_book(chance)
            full, fewer, beside = Shell(), Shell(), Beside()
            for shell in (full, fewer):
                shell.say("book " + plain_text(book))
            beside.say("book " + plain_text(book))
            idle = ("what", "cost zz", "insert 999 zz", "erase 9 0", "text", "span", "book x", "keep none", "show")
            for _ in range(60):
                line = some_line(chance, beside)
                answer = self.says(full, beside, line)
                full.say(chance.choice(idle))
                # Told only the lines that change something, another shell tells the same.
                if answer.split(" ")[0] in ("version", "texts"):
                    self.exact(fewer.say(line), answer)
            for line in ("show", "text", "length", "span", "answers", "redo", "undo", "undo"):
                self.exact(full.say(line), fewer.say(line))

    def test_looking_tells_the_same_again(self):
        shell, _ = self.begun(SOME + "ask class;ask span one;", "insert 0 one", "insert 0 one", "undo")
        state = self.state(shell)
        for line in LOOKS + ("insert 9 one", "keep one", "what", "ask", "undo ", "book"):
            shell.say(line)
            self.exact(self.state(shell), state)
        self.exact(shell.say("redo"), "version 2")

    def test_two_shells_told_by_turns(self):
        chance = random.Random(264)
        pairs = []
        for _ in range(3):
            text = plain_text(some_book(chance))
            pair = (Shell(), Beside())
            self.says(*pair, "book " + text)
            pairs.append(pair)
        # One more with the very book of the last one.
        pairs.append((Shell(), Beside()))
        self.says(*pairs[-1], "book " + text)
        for _ in range(250):
            shell, beside = chance.choice(pairs)
            self.says(shell, beside, some_line(chance, beside))
        for shell, beside in pairs:
            for line in ("show", "text", "length", "span", "answers"):
                self.says(shell, beside, line)

    def test_a_kept_text_stays_as_it_was(self):
        shell, beside = self.begun(SOME, "insert 0 one", "keep two")
        line = "text two: a b b a;"
        self.assertIn(line, shell.say("show"))
        edits = ("erase 0 2", "insert 1 two", "undo", "undo", "undo", "redo", "insert 0 two", "erase 0 8", "keep three")
        for edit in edits:
            self.says(shell, beside, edit)
            self.assertIn(line, shell.say("show"))
            self.exact(shell.say("ask alike one two"), "yes")
            self.exact(shell.say("ask places two from plain"), "0 1 0 1")

    def test_costs_of_the_desk_and_of_what_is_kept(self):
        chance = random.Random(265)
        for at in range(20):
            book = some_book(chance)
            n = len(book[0])
            book = (book[0], front(n)) + book[2:5] + ((),)
            shell, beside = self.begun(plain_text(book))
            for step in range(6):
                for _ in range(4):
                    self.says(shell, beside, some_line(chance, beside))
                name = "k" + "abcdef"[step]
                answer = self.says(shell, beside, f"keep {name}")
                if answer.startswith("texts"):
                    self.exact(dict(beside.book[4])[name], beside.plain.text)
                    for order, _ in book[2]:
                        self.exact(shell.say(f"cost {order}"), shell.say(f"ask cost {name} from {order}"))
                        self.exact(shell.say(f"behind {order}"), shell.say(f"ask behind {name} from {order}"))

    def test_the_same_lines_tell_the_same(self):
        chance = random.Random(266)
        shell, beside = self.begun()
        lines = []
        for _ in range(100):
            lines.append(some_line(chance, beside))
            self.says(shell, beside, lines[-1])
        answers = []
        for _ in range(2):
            again = Shell()
            again.say("book " + SOME)
            answers.append([again.say(line) for line in lines])
        self.exact(answers[0], answers[1])
