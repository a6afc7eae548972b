"""Tables of code words: none of them begins with another one."""

from forwardlists.bounds import MAX_BITS
from forwardlists.errors import Unfit


def _is_code_word(value):
    """Return whether value, any value, is a code word."""
    if not isinstance(value, str) or not 1 <= len(value) <= MAX_BITS:
        return False
    return all([sign in "01" for sign in value])


def table_error(n, value):
    """Return None if value, any value, is a table of n places, otherwise what is wrong first."""
    if not isinstance(value, tuple) or len(value) != n:
        return "form"
    for place, word in enumerate(value):
        if not _is_code_word(word):
            return ("word", place)
    for place, word in enumerate(value):
        for other, further in enumerate(value):
            if other != place and further.startswith(word):
                return ("begins", place, other)
    return None


def is_full(table):
    """Return whether no further code word could be put beside those of table."""
    # A word stands for all rows of MAX_BITS bits that begin with it.
    rows = sum([1 << (MAX_BITS - len(word)) for word in table])
    return rows == (1 << MAX_BITS)


def unary(n):
    """Return the table in which the word of a place is as many "1"s, and then "0"."""
    return tuple(["1" * place + "0" for place in range(n)])


def _even_lengths(n):
    """Return the lengths of n words that are as alike as they can be."""
    if n == 1:
        return (1,)
    length = 1
    while (1 << length) < n:
        length += 1
    shorter = (1 << length) - n
    return (length - 1,) * shorter + (length,) * (n - shorter)


def even_table(n):
    """Return the table of n places whose words are as alike in length as they can be."""
    return table_of(_even_lengths(n))


def _word_behind(word, length):
    """Return the least word of length that comes behind word and does not begin with it."""
    stem = word.rstrip("1")
    if stem == "":
        raise Unfit()
    return (stem[:-1] + "1").ljust(length, "0")


def table_of(lengths):
    """Return the table whose words have these lengths, the short ones given first."""
    words = [""] * len(lengths)
    last = ""
    for length, place in sorted([(bits, at) for at, bits in enumerate(lengths)]):
        if last == "":
            last = "0" * length
        else:
            last = _word_behind(last, length)
        words[place] = last
    return tuple(words)
