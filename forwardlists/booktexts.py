"""Texts of books, and books read from them."""

from forwardlists.books import PARTS, QUESTIONS, check_new_name, thing_in, with_item
from forwardlists.bounds import MAX_ASKS, MAX_PLACES, MAX_READ, MAX_TEXT
from forwardlists.errors import BadOrder, BadRule, BadTable, NoName, Taken, TooMany
from forwardlists.lexing import LONGEST_ROW
from forwardlists.orders import order_error
from forwardlists.reading import Reader
from forwardlists.rules import rule_error, rule_text
from forwardlists.tables import table_error

# What stands ahead of a name in a question that begins with a text or with figures.
LEADS = {"text": (), "figures": (), "table": ("by",), "order": ("from",)}


def _lead(sorts, sort):
    """Return the words ahead of what is of this sort, in a question of these sorts."""
    return () if sorts[0] == "order" else LEADS[sort]


def _rows(figures):
    """Return figures, a string, in rows with a blank between two."""
    if figures == "":
        return "none"
    return " ".join([figures[at:at + LONGEST_ROW] for at in range(0, len(figures), LONGEST_ROW)])


def _question_text(question):
    """Return the text of question."""
    words = [question[0]]
    sorts = QUESTIONS[question[0]]
    for sort, item in zip(sorts, question[1:]):
        words.extend(_lead(sorts, sort))
        words.append(_rows(item) if sort == "figures" else item)
    return " ".join(words)


def _entry_text(sort, name, words):
    """Return the line for what has this name, told by words."""
    return f"{sort} {name}: " + " ".join(words) + ";"


def _names_of(letters, row):
    """Return the names of the letters of row."""
    return [letters[letter] for letter in row]


def book_text(book):
    """Return the text of book."""
    letters, rule, orders, tables, texts, asks = book
    lines = ["letters " + " ".join(letters) + ";", "rule " + rule_text(rule) + ";"]
    lines.extend([_entry_text("order", name, _names_of(letters, order)) for name, order in orders])
    lines.extend([_entry_text("table", name, table) for name, table in tables])
    lines.extend([_entry_text("text", name, _names_of(letters, text) or ["none"]) for name, text in texts])
    lines.extend(["ask " + _question_text(question) + ";" for question in asks])
    return "\n".join(lines)


def _read_letters(reader):
    """Take the line of letters, and return their names."""
    reader.take("letters")
    letters = (reader.take_name(),)
    while len(letters) < MAX_PLACES and not reader.sees(";"):
        name = reader.take_name()
        if name in letters:
            raise Taken(name)
        letters = letters + (name,)
    reader.take(";")
    return letters


def _read_rule(reader, n):
    """Take the line of the rule of n places, and return it."""
    numbers = [str(number) for number in range(MAX_PLACES)]
    reader.take("rule")
    rule = tuple([int(reader.take_one_of(numbers)) for _ in range(n)])
    reader.take(";")
    error = rule_error(rule)
    if error is not None:
        raise BadRule(error)
    return rule


def _read_new_name(reader, book):
    """Take a name that book does not have yet, and the sign behind it; return the name."""
    name = reader.take_name()
    check_new_name(book, name)
    reader.take(":")
    return name


def _read_letter(reader, letters):
    """Take the name of a letter, and return the letter."""
    name = reader.take_name()
    if name not in letters:
        raise NoName(name)
    return letters.index(name)


def _read_order(reader, book):
    """Take a name and an order of the letters of book; return both."""
    name = _read_new_name(reader, book)
    letters = book[0]
    order = tuple([_read_letter(reader, letters) for _ in letters])
    reader.take(";")
    error = order_error(len(letters), order)
    if error is not None:
        raise BadOrder(error)
    return (name, order)


def _read_table(reader, book):
    """Take a name and a table for the places of book; return both."""
    name = _read_new_name(reader, book)
    table = tuple([reader.take_figures() for _ in book[0]])
    reader.take(";")
    error = table_error(len(table), table)
    if error is not None:
        raise BadTable(error)
    return (name, table)


def _read_text(reader, book):
    """Take a name and a text of the letters of book; return both."""
    name = _read_new_name(reader, book)
    text = []
    if reader.sees("none"):
        reader.take("none")
    else:
        text.append(_read_letter(reader, book[0]))
        while not reader.sees(";"):
            letter = _read_letter(reader, book[0])
            if len(text) == MAX_TEXT:
                raise TooMany(MAX_TEXT)
            text.append(letter)
    reader.take(";")
    return (name, tuple(text))


def _read_figures(reader):
    """Take rows of figures, and return them put together."""
    if reader.sees("none"):
        reader.take("none")
        return ""
    figures = reader.take_figures()
    while not reader.sees("by"):
        figures = figures + reader.take_figures()
        if len(figures) > MAX_READ:
            raise TooMany(MAX_READ)
    return figures


def _read_item(reader, book, sort):
    """Take what stands for this sort in a question, and return it."""
    if sort == "figures":
        return _read_figures(reader)
    name = reader.take_name()
    thing_in(book, sort, name)
    return name


def _read_question(reader, book):
    """Take a question of book, and return it."""
    word = reader.take_one_of(list(QUESTIONS))
    sorts = QUESTIONS[word]
    question = (word,)
    for sort in sorts:
        for lead in _lead(sorts, sort):
            reader.take(lead)
        question = question + (_read_item(reader, book, sort),)
    return question


def _read_ask(reader, book):
    """Take one more question of book, and return it."""
    if len(book[PARTS["ask"]]) == MAX_ASKS:
        raise TooMany(MAX_ASKS)
    question = _read_question(reader, book)
    reader.take(";")
    return question


READERS = {"order": _read_order, "table": _read_table, "text": _read_text, "ask": _read_ask}


def read_book(value):
    """Return the book that value, any value, tells."""
    reader = Reader(value)
    letters = _read_letters(reader)
    rule = _read_rule(reader, len(letters))
    book = (letters, rule, (), (), (), ())
    while not reader.at_end():
        sort = reader.take_one_of(list(READERS))
        read_part = READERS[sort]
        book = with_item(book, sort, read_part(reader, book))
    return book


def read_question(book, value):
    """Return the question of book that value, any value, tells."""
    reader = Reader(value)
    question = _read_question(reader, book)
    if not reader.at_end():
        reader.refuse()
    return question
