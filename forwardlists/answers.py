"""Answers to the questions of a book."""

from forwardlists.alike import alike
from forwardlists.asking import run
from forwardlists.besttables import best_for, bits
from forwardlists.books import QUESTIONS, thing_in
from forwardlists.classes import class_size, comes_out
from forwardlists.coding import cost, places_of
from forwardlists.errors import ListError
from forwardlists.fixed import fixed_cost
from forwardlists.gaps import gap
from forwardlists.leasts import counts_of, least_cost
from forwardlists.meeting import meets
from forwardlists.streams import coded, decoded
from forwardlists.summing import least_from, most_from, summary


def words_or_none(words):
    """Return words with a blank between two, or "none" if there are none."""
    return " ".join(words) if len(words) > 0 else "none"


def letter_names(book, row):
    """Return the names of the letters of row with a blank between two, or "none" if there are none."""
    return words_or_none([book[0][letter] for letter in row])


def _yes_or_no(told):
    """Return the word for whether something is so."""
    return "yes" if told else "no"


def _places(book, text, order):
    """Return the places at which the letters of text are found."""
    return words_or_none([str(place) for place in places_of(book[1], order, text)])


def _cost(book, text, order):
    """Return what text costs from order."""
    return str(cost(book[1], order, text))


def _behind(book, text, order):
    """Return the order to which text leads from order."""
    return letter_names(book, run(book[1], order, text))


def _best(book, text, order):
    """Return the fewest bits by which a table writes the places of text."""
    counts = counts_of(len(order), places_of(book[1], order, text))
    return str(bits(best_for(book[1], order, text), counts))


def _bits(book, text, table, order):
    """Return text, coded by table."""
    return coded(book[1], order, table, text) or "none"


def _read(book, figures, table, order):
    """Return the text that figures tell as a stream of table."""
    return letter_names(book, decoded(book[1], order, table, figures))


def _class(book):
    """Return how many orders come out of any one."""
    return str(class_size(book[1]))


def _comes(book, one, other):
    """Return whether other comes out of one."""
    return _yes_or_no(comes_out(book[1], one, other))


def _meet(book, one, other):
    """Return whether some text makes one of one and other."""
    return _yes_or_no(meets(book[1], one, other))


def _gap(book, one, other):
    """Return how much more a text can cost from one than from other."""
    return str(gap(book[1], one, other))


def _summary(book, text):
    """Return the summary of text."""
    turns, firsts, lasts = summary(len(book[0]), text)
    if len(text) == 0:
        return str(turns)
    return f"{turns} first {letter_names(book, firsts)} last {letter_names(book, lasts)}"


def _span(book, text):
    """Return the least and the greatest cost of text."""
    n = len(book[0])
    sums = summary(n, text)
    return f"{least_from(n, sums)} {most_from(n, sums)}"


def _alike(book, one, other):
    """Return whether one and other cost the same from every order, whatever comes behind them."""
    return _yes_or_no(alike(len(book[0]), one, other))


def _fixed(book, text, order):
    """Return what order costs as a fixed list."""
    return str(fixed_cost(order, counts_of(len(book[0]), text)))


def _least(book, text, order):
    """Return the least cost from order of all texts with as many of each letter as text."""
    return str(least_cost(order, counts_of(len(book[0]), text)))


# Each is given the book, and what its question names, in this order.
ANSWERS = {
    "places": _places, "cost": _cost, "behind": _behind, "best": _best, "bits": _bits, "read": _read,
    "class": _class, "comes": _comes, "meet": _meet, "gap": _gap,
    "summary": _summary, "span": _span, "alike": _alike, "fixed": _fixed, "least": _least,
}


def _named(book, sort, item):
    """Return what item stands for in a question of book: itself, if it is a row of figures."""
    return item if sort == "figures" else thing_in(book, sort, item)


def answer(book, question):
    """Return the answer to one question of book."""
    given = [_named(book, sort, item) for sort, item in zip(QUESTIONS[question[0]], question[1:])]
    answer_to = ANSWERS[question[0]]
    try:
        return answer_to(book, *given)
    except ListError as e:
        return "error " + type(e).__name__


def answered(book):
    """Return the answers to all questions of book, in order."""
    return tuple([answer(book, question) for question in book[5]])
