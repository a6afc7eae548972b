"""Tables by which given places take the fewest bits."""

from forwardlists.coding import places_of
from forwardlists.counting import how_often
from forwardlists.tables import table_error, table_of


def bits(table, counts):
    """Return how many bits the words of table take, each place told as often as counts tells."""
    return sum([len(word) * count for word, count in zip(table, counts)])


def _best_lengths(counts):
    """Return lengths of words with the fewest bits for counts."""
    if len(counts) == 1:
        return (1,)
    lengths = [0] * len(counts)
    lots = [(count, (place,)) for place, count in enumerate(counts)]
    while len(lots) > 1:
        # The two least lots become one place, whose word is one bit shorter (Huffman).
        lots = sorted(lots)
        least, second = lots[0], lots[1]
        together = least[1] + second[1]
        for place in together:
            lengths[place] += 1
        lots = lots[2:] + [(least[0] + second[0], together)]
    return tuple(lengths)


def best_table(counts):
    """Return a table with the fewest bits for counts."""
    return table_of(_best_lengths(counts))


def best_error(counts, value):
    """Return None if value, any value, is a table with the fewest bits, otherwise what is wrong first."""
    error = table_error(len(counts), value)
    if error is not None:
        return error
    if bits(value, counts) > bits(best_table(counts), counts):
        return "bits"
    return None


def best_for(rule, order, text):
    """Return a table with the fewest bits for the places at which the letters of text are found."""
    return best_table(how_often(len(rule), places_of(rule, order, text)))
