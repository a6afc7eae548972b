"""A plain text that is edited as the document tells, beside what the program does."""

from forwardlists.errors import ListError, NothingToUndo, TooMany, TooManyEdits, Unfit
from tests.cases import any_values, some_text


def is_number(value):
    """Whether value is an integer, as the document tells."""
    return type(value) is int


class Plain:
    """A plain text, edited as the document tells: the texts and edits so far, and where among them one is."""

    def __init__(self, n):
        self.n, self.texts, self.edits, self.version = n, [()], [], 0

    @property
    def text(self):
        return self.texts[self.version]

    def bad_part(self, begin, end):
        return not (is_number(begin) and is_number(end) and 0 <= begin <= end <= len(self.text))

    def bad_text(self, text):
        if type(text) is not tuple or len(text) > 400:
            return True
        return any(not is_number(letter) or not 0 <= letter < self.n for letter in text)

    def edited(self, edit):
        """What an edit makes of the text, or the error that it raises."""
        if edit[0] == "insert":
            _, at, text = edit
            if not is_number(at) or not 0 <= at <= len(self.text) or self.bad_text(text):
                return Unfit()
            if len(self.text) + len(text) > 400:
                return TooMany(400)
            made = self.text[:at] + text + self.text[at:]
        else:
            begin, end = edit[1:3]
            if self.bad_part(begin, end):
                return Unfit()
            made, part = self.text[:begin] + self.text[end:], self.text[begin:end]
            if edit[0] == "move":
                to = edit[3]
                if not is_number(to) or not 0 <= to <= len(made):
                    return Unfit()
                made = made[:to] + part + made[to:]
        return TooManyEdits() if self.version == 40 else made

    def do(self, edit):
        """Do an edit; return the new version, or the error that it raises."""
        made = self.edited(edit)
        if isinstance(made, ListError):
            return made
        self.texts = self.texts[:self.version + 1] + [made]
        self.edits = self.edits[:self.version] + [edit]
        self.version += 1
        return self.version

    def step(self, by):
        """Take back the last edit, or do the next one again."""
        if not 0 <= self.version + by < len(self.texts):
            return NothingToUndo()
        self.version += by
        return self.version


def some_edit(chance, n, length):
    """An edit of a text of n letters with `length` of them; now and then one that is refused."""
    begin = chance.randint(0, length)
    end = chance.randint(begin, length)
    kind = chance.randint(0, 9)
    if kind < 5:
        return ("insert", begin, some_text(chance, n, chance.choice((0, 1, 2, 5, 12, 30, 90))))
    if kind < 6:
        return ("erase", begin, min(end, begin + chance.randint(0, 20)))
    if kind < 9:
        return ("move", begin, end, chance.randint(0, length - (end - begin)))
    odd = chance.choice(any_values())
    return chance.choice((
        ("insert", odd, (0,)), ("insert", 0, odd), ("insert", length + 1, ()), ("insert", 0, (n,)), ("insert", -1, ()),
        ("insert", begin, some_text(chance, n, 400)), ("erase", odd, end), ("erase", begin, odd),
        ("erase", length, length + 1), ("move", begin, end, odd), ("move", odd, end, 0), ("move", begin, odd, 0),
        ("move", begin, end, length + 1),
    ))
