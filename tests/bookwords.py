"""Books as the tests tell them, by the words of the document: their faults, texts, readings and answers."""

import itertools
import re

from forwardlists import errors
from forwardlists.alike import alike
from forwardlists.asking import run
from forwardlists.besttables import best_for, bits
from forwardlists.classes import class_size, comes_out
from forwardlists.coding import cost, places_of
from forwardlists.errors import BadOrder, BadRule, BadTable, BadText, ListError, NoName, Taken, TooMany
from forwardlists.fixed import fixed_cost
from forwardlists.gaps import gap
from forwardlists.leasts import counts_of, least_cost
from forwardlists.meeting import meets
from forwardlists.orders import order_error, text_error
from forwardlists.rules import rule_error
from forwardlists.streams import coded, decoded
from forwardlists.summing import least_from, most_from, summary
from forwardlists.tables import even_table, table_error, unary
from tests.cases import some_order, some_text

WORDS = (
    "alike", "ask", "behind", "best", "bits", "by", "class", "comes", "cost", "fixed", "from", "gap", "least",
    "letters", "meet", "none", "order", "places", "read", "rule", "span", "summary", "table", "text",
)
# What each question names: a text, a string of figures, a table, an order.
FORMS = {
    "places": "TO", "cost": "TO", "behind": "TO", "best": "TO", "bits": "TBO", "read": "SBO", "class": "",
    "comes": "OO",
    "meet": "OO", "gap": "OO", "summary": "T", "span": "T", "alike": "TT", "fixed": "TO", "least": "TO",
}
SORTS = {"O": 2, "B": 3, "T": 4}
NAMES = ["".join(letters) for letters in itertools.product("pqrstuvw", repeat=2)]


def named(value):
    """Whether value is a name."""
    return type(value) is str and re.fullmatch("[a-z]{1,8}", value) is not None and value not in WORDS


def question_is(book, value):
    """Whether value is a question of this book."""
    if type(value) is not tuple or not value or type(value[0]) is not str or value[0] not in FORMS:
        return False
    form = FORMS[value[0]]
    if len(value) != 1 + len(form):
        return False
    for sort, item in zip(form, value[1:]):
        if type(item) is not str:
            return False
        if sort == "S" and re.fullmatch("[0-9]{0,400}", item) is None:
            return False
        if sort != "S" and item not in [name for name, _ in book[SORTS[sort]]]:
            return False
    return True


def book_fault(value):
    """What is wrong with value as a book."""
    if type(value) is not tuple or len(value) != 6 or any(type(part) is not tuple for part in value):
        return "form"
    letters, rule, orders, tables, texts, asks = value
    n = len(letters)
    if not 1 <= n <= 12:
        return "form"
    names = []
    for place, name in enumerate(letters):
        if not named(name) or name in names:
            return ("letter", place)
        names.append(name)
    if rule_error(rule) is not None or len(rule) != n:
        return "rule"
    wrongs = (("order", orders, order_error), ("table", tables, table_error), ("text", texts, text_error))
    for sort, part, wrong in wrongs:
        for place, item in enumerate(part):
            if type(item) is not tuple or len(item) != 2 or not named(item[0]) or item[0] in names:
                return (sort, place)
            if wrong(n, item[1]) is not None:
                return (sort, place)
            names.append(item[0])
    for place, item in enumerate(asks):
        if not question_is(value, item):
            return ("ask", place)
    return "many" if len(names) > 40 or len(asks) > 40 else None


def question_words(question):
    """The words of a question, as in the text of a book."""
    words = [question[0]]
    form = FORMS[question[0]]
    for sort, item in zip(form, question[1:]):
        if sort == "S":
            words += re.findall(".{1,40}", item) or ["none"]
        elif sort == "B":
            words += ["by", item]
        elif sort == "O" and form[0] in "TS":
            words += ["from", item]
        else:
            words.append(item)
    return words


def plain_lines(book):
    """The lines of the text of a book."""
    letters, rule, orders, tables, texts, asks = book
    lines = ["letters " + " ".join(letters), "rule " + " ".join(map(str, rule))]
    for name, order in orders:
        lines.append(f"order {name}: " + " ".join(letters[letter] for letter in order))
    for name, table in tables:
        lines.append(f"table {name}: " + " ".join(table))
    for name, text in texts:
        lines.append(f"text {name}: " + (" ".join(letters[letter] for letter in text) or "none"))
    for question in asks:
        lines.append("ask " + " ".join(question_words(question)))
    return [line + ";" for line in lines]


def plain_text(book):
    """The text of a book."""
    return "\n".join(plain_lines(book))


def lexed(value):
    """All tokens of a string, and behind them ("end", "", place), or ("bad", "", place) where something else stands."""
    found, place = [], 0
    while True:
        place = re.compile("[ \n]*").match(value, place).end()
        row = re.compile("[a-z]+|[0-9]+|[;:]").match(value, place)
        if row is None:
            return found + [("end" if place == len(value) else "bad", "", place)]
        text = row.group()
        if len(text) > (40 if text[0] in "0123456789" else 8):
            return found + [("bad", "", place)]
        sort = "sign" if text in ";:" else "figures" if text[0] in "0123456789" else "word"
        found.append((sort, text, place))
        place = row.end()


class Fault(Exception):
    """A reading that stops at an error."""


class Reading:
    """A reading of a book's text, token by token."""

    def __init__(self, value):
        self.row = lexed(value)
        self.letters, self.rule, self.names = [], (), []
        self.things = {"O": [], "B": [], "T": []}
        self.asks = []

    def pop(self, let):
        """The next token's text, if let takes the token."""
        sort, text, place = self.row[0]
        if not let(sort, text):
            raise Fault(BadText(place))
        self.row.pop(0)
        return text

    def word(self, *words):
        return self.pop(lambda sort, text: text in words and text != "")

    def name(self):
        return self.pop(lambda sort, text: named(text))

    def figures(self):
        return self.pop(lambda sort, text: sort == "figures")

    def new(self):
        name = self.name()
        if name in self.names:
            raise Fault(Taken(name))
        if len(self.names) == 40:
            raise Fault(TooMany(40))
        self.names.append(name)
        return name

    def letter(self):
        name = self.name()
        if name not in self.letters:
            raise Fault(NoName(name))
        return self.letters.index(name)

    def more(self, end):
        """Whether the next token is not this end."""
        return self.row[0][1] != end

    def checked(self, made, error, thing):
        """thing, behind its ";", if there is no error of it."""
        self.word(";")
        wrong = error(thing)
        if wrong is not None:
            raise Fault(made(wrong))
        return thing

    def head(self):
        self.word("letters")
        self.letters.append(self.new())
        while self.more(";") and len(self.letters) < 12:
            self.letters.append(self.new())
        self.word(";")
        self.word("rule")
        numbers = [int(self.word(*map(str, range(12)))) for _ in self.letters]
        self.rule = self.checked(BadRule, rule_error, tuple(numbers))

    def part(self):
        n = len(self.letters)
        word = self.word("order", "table", "text", "ask")
        if word == "ask":
            if len(self.asks) == 40:
                raise Fault(TooMany(40))
            self.asks.append(self.question())
            self.word(";")
            return
        name = self.new()
        self.word(":")
        if word == "order":
            order = tuple([self.letter() for _ in range(n)])
            thing = self.checked(BadOrder, lambda value: order_error(n, value), order)
        elif word == "table":
            table = tuple([self.figures() for _ in range(n)])
            thing = self.checked(BadTable, lambda value: table_error(n, value), table)
        else:
            thing = self.text()
            self.word(";")
        self.things[{"order": "O", "table": "B", "text": "T"}[word]].append((name, thing))

    def text(self):
        if not self.more("none"):
            self.word("none")
            return ()
        text = [self.letter()]
        while self.more(";"):
            text.append(self.letter())
            if len(text) > 400:
                raise Fault(TooMany(400))
        return tuple(text)

    def question(self):
        word = self.word(*FORMS)
        form, items = FORMS[word], []
        for sort in form:
            if sort == "S":
                items.append(self.read_figures())
                continue
            if sort == "B":
                self.word("by")
            if sort == "O" and form[0] in "TS":
                self.word("from")
            name = self.name()
            if name not in [given for given, _ in self.things[sort]]:
                raise Fault(NoName(name))
            items.append(name)
        return (word, *items)

    def read_figures(self):
        if not self.more("none"):
            self.word("none")
            return ""
        figures = self.figures()
        while self.more("by"):
            figures += self.figures()
            if len(figures) > 400:
                raise Fault(TooMany(400))
        return figures

    def book(self):
        return (tuple(self.letters), self.rule, *map(tuple, self.things.values()), tuple(self.asks))


def told(value):
    """The book that value tells, or the error that is found first."""
    if type(value) is not str:
        return BadText(0)
    reading = Reading(value)
    try:
        reading.head()
        while reading.row[0][0] != "end":
            reading.part()
    except Fault as fault:
        return fault.args[0]
    return reading.book()


def question_told(book, value):
    """The question that value tells of a book, or the error that is found first."""
    reading = Reading(value)
    reading.things = {sort: list(book[at]) for sort, at in SORTS.items()}
    try:
        question = reading.question()
        reading.pop(lambda sort, text: sort == "end")
    except Fault as fault:
        return fault.args[0]
    return question


def thing(book, sort, name):
    """What this name stands for in a question."""
    return name if sort == "S" else dict(book[SORTS[sort]])[name]


def spelled(book, row):
    """The names of the letters of a row, or "none"."""
    return " ".join(book[0][letter] for letter in row) or "none"


def own_answer(book, word, given):
    """The answer to the question of this word on what it names."""
    rule, n = book[1], len(book[0])
    yes = {True: "yes", False: "no"}
    if word in ("summary", "span"):
        sums = summary(n, given[0])
        if word == "span":
            return f"{least_from(n, sums)} {most_from(n, sums)}"
        rows = [f" {row} {spelled(book, sums[at])}" for row, at in (("first", 1), ("last", 2))]
        return str(sums[0]) + ("".join(rows) if given[0] else "")
    if word == "class":
        return str(class_size(rule))
    if word in ("comes", "meet", "gap", "alike"):
        one, other = given
        if word == "alike":
            return yes[alike(n, one, other)]
        if word == "gap":
            return str(gap(rule, one, other))
        return yes[{"comes": comes_out, "meet": meets}[word](rule, one, other)]
    if word == "read":
        return spelled(book, decoded(rule, given[2], given[1], given[0]))
    if word == "bits":
        return coded(rule, given[2], given[1], given[0]) or "none"
    text, order = given
    places = places_of(rule, order, text)
    return {
        "places": lambda: " ".join(map(str, places)) or "none",
        "cost": lambda: str(cost(rule, order, text)),
        "behind": lambda: spelled(book, run(rule, order, text)),
        "best": lambda: str(bits(best_for(rule, order, text), tuple(places.count(at) for at in range(n)))),
        "fixed": lambda: str(fixed_cost(order, counts_of(n, text))),
        "least": lambda: str(least_cost(order, counts_of(n, text))),
    }[word]()


def answer_of(book, question):
    """The answer to a question of a book, "error" and the error's name too."""
    word, *items = question
    try:
        return own_answer(book, word, [thing(book, sort, item) for sort, item in zip(FORMS[word], items)])
    except ListError as error:
        return "error " + error_name(error)


def error_name(error):
    """The name of an error's class, which is one of the package's."""
    name = type(error).__name__
    assert getattr(errors, name) is type(error)
    return name


def some_book(chance, n=None, most=5):
    """A book of n letters, or as many as chance tells, with each sort of question that it can have."""
    n = n or chance.randint(1, 12)
    names = chance.sample(NAMES, n + 3 * most)
    letters, names = tuple(names[:n]), names[n:]
    rule = tuple(chance.randint(0, place) for place in range(n))
    parts = []
    for make in (
        lambda: some_order(chance, n),
        lambda: chance.choice((unary(n), even_table(n))),
        lambda: some_text(chance, n, chance.choice((0, 1, 3, 20, 60))),
    ):
        many = chance.randint(0, most)
        parts.append(tuple((name, make()) for name in names[:many]))
        names = names[many:]
    book = (letters, rule, *parts, ())
    return book[:5] + (some_questions(chance, book),)


def some_questions(chance, book):
    """Questions of each sort that a book can have, in any order."""
    asks = []
    for word, form in FORMS.items():
        if all(sort == "S" or book[SORTS[sort]] for sort in form):
            for _ in range(chance.randint(1, 2)):
                asks.append((word, *[some_item(chance, book, sort) for sort in form]))
    chance.shuffle(asks)
    return tuple(asks)


def some_item(chance, book, sort):
    """What may stand for this sort in a question of a book."""
    if sort != "S":
        return chance.choice(book[SORTS[sort]])[0]
    signs = chance.choice(("01", "01", "0", "1", "0123456789"))
    return "".join(chance.choice(signs) for _ in range(chance.choice((0, 1, 39, 40, 41, 100))))
