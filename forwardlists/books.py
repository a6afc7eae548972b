"""Books: letters, a rule, orders, tables and texts by their names, and questions on them."""

from forwardlists.bounds import MAX_ASKS, MAX_NAMES, MAX_PLACES, MAX_READ
from forwardlists.errors import NoName, Taken, TooMany
from forwardlists.lexing import is_name, is_row
from forwardlists.orders import order_error, text_error
from forwardlists.rules import rule_error
from forwardlists.tables import table_error

# What a question of each keyword names: things of the book, or a row of figures.
QUESTIONS = {
    "places": ("text", "order"),
    "cost": ("text", "order"),
    "behind": ("text", "order"),
    "best": ("text", "order"),
    "bits": ("text", "table", "order"),
    "read": ("figures", "table", "order"),
    "class": (),
    "comes": ("order", "order"),
    "meet": ("order", "order"),
    "gap": ("order", "order"),
    "summary": ("text",),
    "span": ("text",),
    "alike": ("text", "text"),
    "fixed": ("text", "order"),
    "least": ("text", "order"),
}
# Where in a book stands what its text tells behind each of these words.
PARTS = {"order": 2, "table": 3, "text": 4, "ask": 5}


def names_in(book):
    """Return all names of book: of letters, orders, tables and texts."""
    names = list(book[0])
    for sort in ("order", "table", "text"):
        names.extend([name for name, _ in book[PARTS[sort]]])
    return names


def check_new_name(book, name):
    """Raise Taken if book has this name already, TooMany if it has no room for one more."""
    names = names_in(book)
    if name in names:
        raise Taken(name)
    if len(names) >= MAX_NAMES:
        raise TooMany(MAX_NAMES)


def with_item(book, sort, item):
    """Return book with item put behind its orders, tables, texts or questions, as the word for its sort tells."""
    at = PARTS[sort]
    return book[:at] + (book[at] + (item,),) + book[at + 1:]


def thing_in(book, sort, name):
    """Return what has this name, any string, among the things of this sort in book."""
    for given, thing in book[PARTS[sort]]:
        if given == name:
            return thing
    raise NoName(name)


def order_in(book, name):
    """Return the order that has this name, any string, in book."""
    return thing_in(book, "order", name)


def table_in(book, name):
    """Return the table that has this name, any string, in book."""
    return thing_in(book, "table", name)


def text_in(book, name):
    """Return the text that has this name, any string, in book."""
    return thing_in(book, "text", name)


def _wrong_letter(letters):
    """Return the place of the first item that is no name, or stands there ahead; None if there is none."""
    for place, name in enumerate(letters):
        if not is_name(name) or name in letters[:place]:
            return place
    return None


def _wrong_entry(entries, error_of, n, names):
    """Return the place of the first item that is no pair of a new name and what error_of lets; None if all are."""
    taken = {name: True for name in names}
    for place, entry in enumerate(entries):
        if not isinstance(entry, tuple) or len(entry) != 2:
            return place
        name, thing = entry
        if not is_name(name) or name in taken or error_of(n, thing) is not None:
            return place
        taken[name] = True
    return None


def _fits(book, sort, item):
    """Return whether item, any value, can stand for this sort in a question of book."""
    if sort == "figures":
        return is_row(item, MAX_READ)
    return item in [name for name, _ in book[PARTS[sort]]]


def _is_question(book, value):
    """Return whether value, any value, is a question of book."""
    if not isinstance(value, tuple) or len(value) == 0 or not isinstance(value[0], str) or value[0] not in QUESTIONS:
        return False
    sorts = QUESTIONS[value[0]]
    if len(value) - 1 != len(sorts):
        return False
    return all([_fits(book, sort, item) for sort, item in zip(sorts, value[1:])])


def _entries_error(book):
    """Return None if the orders, tables and texts of book are such, otherwise what is wrong first."""
    n = len(book[0])
    names = list(book[0])
    for sort, error_of in (("order", order_error), ("table", table_error), ("text", text_error)):
        entries = book[PARTS[sort]]
        place = _wrong_entry(entries, error_of, n, names)
        if place is not None:
            return (sort, place)
        names.extend([name for name, _ in entries])
    return None


def book_error(value):
    """Return None if value, any value, is a book, otherwise what is wrong first."""
    if not isinstance(value, tuple) or len(value) != 6 or not all([isinstance(part, tuple) for part in value]):
        return "form"
    letters, rule, _, _, _, asks = value
    if not 1 <= len(letters) <= MAX_PLACES:
        return "form"
    place = _wrong_letter(letters)
    if place is not None:
        return ("letter", place)
    if rule_error(rule) is not None or len(rule) != len(letters):
        return "rule"
    error = _entries_error(value)
    if error is not None:
        return error
    for at, question in enumerate(asks):
        if not _is_question(value, question):
            return ("ask", at)
    if len(names_in(value)) > MAX_NAMES or len(asks) > MAX_ASKS:
        return "many"
    return None
