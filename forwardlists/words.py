"""Strings that are made of short words with one blank between two."""


def misplaced(value, signs, longest):
    """Return the place at which value, any value, ceases to be made of words.

    A word is 1 to longest of signs, and no sign comes behind a "0" at its
    beginning. There is one word at least, and one blank between two. The place
    is that of the first sign that cannot stand there, or how many signs value
    has if a word lacks at its end; 0 if it is no string; None if it is made so.
    """
    if not isinstance(value, str):
        return 0
    word = ""
    for place, sign in enumerate(value):
        if sign == " " and word:
            word = ""
        elif sign in signs and len(word) < longest and word != "0":
            word = word + sign
        else:
            return place
    return None if word else len(value)
