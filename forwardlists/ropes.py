"""Ropes: texts in pieces, each with its summary, if all letters go to the front.

A rope is a triple (many, sums, body): body is a short text, or a tuple of ropes, its
pieces; many is how many letters its text has, and sums the summary of it. What is told
of a text is put together from its pieces, and an edit keeps those that it does not touch.
"""

from forwardlists.bounds import MAX_LEAF, MAX_NESTED, MAX_PIECES, MAX_TEXT
from forwardlists.errors import TooMany, Unfit
from forwardlists.integers import is_same, is_within
from forwardlists.summing import NOTHING, joined, summary


def _is_formed(n, value, nested):
    """Return whether value, any value, is made as a rope with so many tuples of pieces within one another at most."""
    if not isinstance(value, tuple) or len(value) != 3 or not isinstance(value[2], tuple):
        return False
    body = value[2]
    if len(body) <= MAX_LEAF and all([is_within(item, 0, n - 1) for item in body]):
        return True
    if nested == 0 or len(body) > MAX_PIECES:
        return False
    return all([_is_formed(n, piece, nested - 1) for piece in body])


def _is_leaf(rope):
    """Return whether the body of rope is a text."""
    body = rope[2]
    return len(body) == 0 or not isinstance(body[0], tuple)


def _with_all_within(rope):
    """Return rope, and all ropes that stand within it."""
    found = [rope]
    if not _is_leaf(rope):
        for piece in rope[2]:
            found.extend(_with_all_within(piece))
    return found


def rope_text(rope):
    """Return the text of rope."""
    if _is_leaf(rope):
        return rope[2]
    text = ()
    for piece in rope[2]:
        text = text + rope_text(piece)
    return text


def rope_error(n, value):
    """Return None if value, any value, is a rope of n letters, otherwise what is wrong first."""
    if not _is_formed(n, value, MAX_NESTED):
        return "form"
    told = [(many, sums, rope_text((many, sums, body))) for many, sums, body in _with_all_within(value)]
    if len(told[0][2]) > MAX_TEXT or not all([is_same(many, len(text)) for many, _, text in told]):
        return "many"
    if not all([is_same(sums, summary(n, text)) for _, sums, text in told]):
        return "sums"
    return None


def _leaf(n, text):
    """Return the rope of text, a short one, in one piece."""
    return (len(text), summary(n, text), text)


def _over(pieces):
    """Return the rope of these pieces, at most as many as a rope may have."""
    sums = NOTHING
    for piece in pieces:
        sums = joined(sums, piece[1])
    return (sum([piece[0] for piece in pieces]), sums, tuple(pieces))


def _fewer(leaves):
    """Return leaves, neighbours put together where one leaf holds both."""
    found = []
    for leaf in leaves:
        if len(found) > 0 and found[-1][0] + leaf[0] <= MAX_LEAF:
            elder = found.pop()
            found.append((elder[0] + leaf[0], joined(elder[1], leaf[1]), elder[2] + leaf[2]))
        else:
            found.append(leaf)
    return found


def _rope_over(leaves):
    """Return a rope whose text is that of leaves, one behind another."""
    # Else edits would leave ever more and smaller ones, in the end more than a rope can hold.
    pieces = _fewer(leaves)
    while len(pieces) > 1:
        pieces = [_over(pieces[at:at + MAX_PIECES]) for at in range(0, len(pieces), MAX_PIECES)]
    return pieces[0] if len(pieces) == 1 else (0, NOTHING, ())


def _cut(n, text):
    """Return leaves whose text is text, one behind another."""
    return [_leaf(n, text[at:at + MAX_LEAF]) for at in range(0, len(text), MAX_LEAF)]


def _leaves(n, rope, begin, end):
    """Return leaves of the text of rope from begin to the place ahead of end, rope's own ones where they lie in it."""
    if begin >= end:
        return []
    many, _, body = rope
    if _is_leaf(rope):
        return [rope] if end - begin == many else [_leaf(n, body[begin:end])]
    found = []
    start = 0
    for piece in body:
        found.extend(_leaves(n, piece, max(begin - start, 0), min(end - start, piece[0])))
        start += piece[0]
    return found


def rope_of(n, text):
    """Return a rope of n letters whose text is text."""
    return _rope_over(_cut(n, text))


def _check_part(rope, begin, end):
    """Raise Unfit if begin and end, any values, are no places of a part of rope."""
    if not is_within(end, 0, rope[0]) or not is_within(begin, 0, end):
        raise Unfit()


def _sums_between(n, rope, begin, end):
    """Return the summary of the letters of rope from begin to the place ahead of end."""
    many, sums, body = rope
    if begin == 0 and end == many:
        return sums
    if _is_leaf(rope):
        return summary(n, body[begin:end])
    found = NOTHING
    start = 0
    for piece in body:
        first, last = max(begin - start, 0), min(end - start, piece[0])
        if first < last:
            found = joined(found, _sums_between(n, piece, first, last))
        start += piece[0]
    return found


def part_sums(n, rope, begin, end):
    """Return the summary of the letters of rope from begin to the place ahead of end, any values."""
    _check_part(rope, begin, end)
    return _sums_between(n, rope, begin, end)


def _check_length(many):
    """Raise TooMany if a text has not so many letters at most."""
    if many > MAX_TEXT:
        raise TooMany(MAX_TEXT)


def rope_joined(n, one, other):
    """Return a rope whose text is that of one, and that of other behind it."""
    _check_length(one[0] + other[0])
    return _rope_over(_leaves(n, one, 0, one[0]) + _leaves(n, other, 0, other[0]))


def rope_in(n, rope, at, text):
    """Return a rope whose text is rope's with text put in at the place at, any value."""
    if not is_within(at, 0, rope[0]):
        raise Unfit()
    _check_length(rope[0] + len(text))
    return _rope_over(_leaves(n, rope, 0, at) + _cut(n, text) + _leaves(n, rope, at, rope[0]))


def rope_out(n, rope, begin, end):
    """Return a rope whose text is rope's without the letters from begin to the place ahead of end, any values."""
    _check_part(rope, begin, end)
    return _rope_over(_leaves(n, rope, 0, begin) + _leaves(n, rope, end, rope[0]))
