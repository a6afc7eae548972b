"""Shells: a book and a desk that are told lines."""

from forwardlists.answers import answer, answered, letter_names
from forwardlists.books import check_new_name, order_in, text_in, with_item
from forwardlists.booktexts import book_text, read_book, read_question
from forwardlists.desks import Desk
from forwardlists.errors import ListError
from forwardlists.lexing import is_name, is_row

# What stands behind the first word of each line, but of those that end with any text.
LINES = {
    "insert": ("number", "name"), "erase": ("number", "number"), "move": ("number", "number", "number"),
    "undo": (), "redo": (), "keep": ("name",), "show": (), "answers": (), "text": (), "length": (), "span": (),
    "cost": ("name",), "behind": ("name",), "part": ("number", "number", "name"),
}
LONGEST_NUMBER = 3


def _is_number_text(word):
    """Return whether word is a number of few figures, without noughts ahead of others."""
    return word == "0" or (is_row(word, LONGEST_NUMBER) and word[:1] not in ("", "0"))


def _is_given(sort, word):
    """Return whether word can stand for this sort in a line."""
    return is_name(word) if sort == "name" else _is_number_text(word)


def _line_told(line):
    """Return the first word of line, any value, and what is given behind it; None if it is no line."""
    if not isinstance(line, str):
        return None
    for word in ("book", "ask"):
        if line.startswith(word + " "):
            text = line[len(word) + 1:]
            return None if word == "ask" and ";" in text else (word, (text,))
    words = line.split(" ")
    sorts = LINES.get(words[0], None)
    if sorts is None or len(words) - 1 != len(sorts):
        return None
    pairs = list(zip(sorts, words[1:]))
    if not all([_is_given(sort, word) for sort, word in pairs]):
        return None
    return (words[0], tuple([word if sort == "name" else int(word) for sort, word in pairs]))


def _version(version):
    """Return the answer that tells a version of the desk."""
    return f"version {version}"


def _book(shell, text):
    """Let the book that text tells, and a new desk, take the place of the elder ones."""
    book = read_book(text)
    shell.book = book
    shell.desk = Desk(len(book[0]))
    return _version(shell.desk.version)


def _insert(shell, at, name):
    """Put the text of this name into the desk's text."""
    return _version(shell.desk.insert(at, text_in(shell.book, name)))


def _erase(shell, begin, end):
    """Take letters out of the desk's text."""
    return _version(shell.desk.erase(begin, end))


def _move(shell, begin, end, to):
    """Move letters within the desk's text."""
    return _version(shell.desk.move(begin, end, to))


def _undo(shell):
    """Take back the desk's last edit."""
    return _version(shell.desk.undo())


def _redo(shell):
    """Do again what was taken back last."""
    return _version(shell.desk.redo())


def _keep(shell, name):
    """Put the desk's text behind the texts of the book."""
    check_new_name(shell.book, name)
    shell.book = with_item(shell.book, "text", (name, shell.desk.text))
    return f"texts {len(shell.book[4])}"


def _show(shell):
    """Return the text of the book."""
    return book_text(shell.book)


def _answers(shell):
    """Return the answers to the questions of the book."""
    return "\n".join(answered(shell.book)) or "none"


def _ask(shell, text):
    """Return the answer to the question that text tells."""
    return answer(shell.book, read_question(shell.book, text))


def _text(shell):
    """Return the names of the letters of the desk's text."""
    return letter_names(shell.book, shell.desk.text)


def _length(shell):
    """Return how many letters the desk's text has."""
    return str(shell.desk.length)


def _span(shell):
    """Return the least and the greatest cost of the desk's text."""
    least, most = shell.desk.span()
    return f"{least} {most}"


def _cost(shell, name):
    """Return what the desk's text costs from the order of this name."""
    return str(shell.desk.cost_by(order_in(shell.book, name)))


def _behind(shell, name):
    """Return the names of the letters of the order to which the desk's text leads."""
    return letter_names(shell.book, shell.desk.behind_by(order_in(shell.book, name)))


def _part(shell, begin, end, name):
    """Return what a part of the desk's text costs from the order of this name."""
    return str(shell.desk.part_cost(begin, end, order_in(shell.book, name)))


# Each is given the shell, and what is told in the line behind its word.
ACTIONS = {
    "book": _book, "insert": _insert, "erase": _erase, "move": _move, "undo": _undo, "redo": _redo, "keep": _keep,
    "show": _show, "answers": _answers, "ask": _ask, "text": _text, "length": _length, "span": _span,
    "cost": _cost, "behind": _behind, "part": _part,
}


class Shell:
    """A book, and a desk of as many letters; both are None until a book has been told."""

    def __init__(self):
        self.book = None
        self.desk = None

    def say(self, line):
        """Do what line, any value, tells, and return what there is to be told of it."""
        told = _line_told(line)
        if told is None:
            return "what"
        word, given = told
        if self.book is None and word != "book":
            return "no book"
        action = ACTIONS[word]
        try:
            return action(self, *given)
        except ListError as e:
            return "error " + type(e).__name__
