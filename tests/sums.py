"""Summaries as the tests make them, and texts that have them."""

import itertools


def short_texts(n, most):
    """All texts of n letters with at most `most` of them."""
    return [text for many in range(most + 1) for text in itertools.product(range(n), repeat=many)]


def summed(text):
    """The summary of a text, by the words of the document."""
    firsts = tuple(dict.fromkeys(text))
    lasts = tuple(dict.fromkeys(text[::-1]))[::-1]
    turns = 0
    for at, letter in enumerate(text):
        if letter in text[:at]:
            last = max(place for place in range(at) if text[place] == letter)
            turns += len(set(text[last + 1:at]))
    return (turns, firsts, lasts)


def fewest_turns(firsts, lasts):
    """The least turns, pair by pair as the document tells them."""
    turns = 0
    for one, other in itertools.combinations(firsts, 2):
        if lasts.index(one) > lasts.index(other):
            turns += 1
        elif any(lasts.index(later) < lasts.index(one) for later in firsts[firsts.index(other) + 1:]):
            turns += 2
    return turns


def text_with(sums):
    """A text whose summary is sums, made as the document tells."""
    turns, firsts, lasts = sums
    text = []
    told = 0
    for letter in firsts:
        text.append(letter)
        while told < len(lasts) and lasts[told] in text:
            if text[-1] != lasts[told]:
                text.append(lasts[told])
            told += 1
    more = (turns - fewest_turns(firsts, lasts)) // 2
    return tuple(text) + lasts[-2:] * more


def all_rows(n):
    """All pairs (firsts, lasts) of the same letters of n, each once in both."""
    for many in range(n + 1):
        for firsts in itertools.permutations(range(n), many):
            for lasts in itertools.permutations(firsts):
                yield firsts, lasts


def some_sums(chance, n):
    """The summary of some text of n letters."""
    firsts = tuple(chance.sample(range(n), chance.randint(0, n)))
    lasts = tuple(chance.sample(firsts, len(firsts)))
    more = 2 * chance.randint(0, 40) if len(firsts) > 1 else 0
    return (fewest_turns(firsts, lasts) + more, firsts, lasts)
