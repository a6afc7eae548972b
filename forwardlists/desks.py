"""Desks: texts that are edited, and what they cost, if all letters go to the front."""

from forwardlists.bounds import MAX_EDITS, MAX_PLACES
from forwardlists.errors import BadLog, BadOrder, ListError, NothingToUndo, TooManyEdits, Unfit
from forwardlists.integers import is_within
from forwardlists.orders import order_error, text_error
from forwardlists.ropes import part_sums, rope_in, rope_of, rope_out, rope_text
from forwardlists.summing import behind, cost_from, least_from, most_from


def _check_order(n, order):
    """Raise BadOrder if order, any value, is no order of n letters."""
    error = order_error(n, order)
    if error is not None:
        raise BadOrder(error)


class Desk:
    """A text of n letters that is edited; edits can be taken back, and done again."""

    def __init__(self, n):
        if not is_within(n, 1, MAX_PLACES):
            raise Unfit()
        self.n = n
        # One rope more than edits: what each version's text was; both also of what was taken back.
        self._ropes = (rope_of(n, ()),)
        self._edits = ()
        self._go_to(0)

    def _go_to(self, version):
        """Let as many edits stand as version tells, and return it."""
        rope = self._ropes[version]
        self.text = rope_text(rope)
        self.length = rope[0]
        self.sums = rope[1]
        self.version = version
        self.log = self._edits[:version]
        return version

    def _edited(self, edit, rope):
        """Let edit stand, which makes rope of the text, and return the new version."""
        if self.version == MAX_EDITS:
            raise TooManyEdits()
        self._ropes = self._ropes[:self.version + 1] + (rope,)
        self._edits = self.log + (edit,)
        return self._go_to(self.version + 1)

    def insert(self, at, text):
        """Put text in ahead of the letter at the place at; return the new version."""
        if text_error(self.n, text) is not None:
            raise Unfit()
        rope = rope_in(self.n, self._ropes[self.version], at, text)
        return self._edited(("insert", at, text), rope)

    def erase(self, begin, end):
        """Take out the letters from begin to the place ahead of end; return the new version."""
        rope = rope_out(self.n, self._ropes[self.version], begin, end)
        return self._edited(("erase", begin, end), rope)

    def move(self, begin, end, to):
        """Take these letters out, and put them in ahead of what then stands at the place to; return the new version."""
        left = rope_out(self.n, self._ropes[self.version], begin, end)
        rope = rope_in(self.n, left, to, self.text[begin:end])
        return self._edited(("move", begin, end, to), rope)

    def undo(self):
        """Take back the last edit that stands; return the version then."""
        if self.version == 0:
            raise NothingToUndo()
        return self._go_to(self.version - 1)

    def redo(self):
        """Do again what was taken back last; return the version then."""
        if self.version == len(self._edits):
            raise NothingToUndo()
        return self._go_to(self.version + 1)

    def cost_by(self, order):
        """Return what the text costs from order."""
        return self.part_cost(0, self.length, order)

    def behind_by(self, order):
        """Return the order to which the text leads from order."""
        _check_order(self.n, order)
        return behind(self.sums, order)

    def part_cost(self, begin, end, order):
        """Return what the letters from begin to the place ahead of end cost from order."""
        sums = part_sums(self.n, self._ropes[self.version], begin, end)
        _check_order(self.n, order)
        return cost_from(sums, order)

    def span(self):
        """Return the least and the greatest cost of the text over all orders."""
        return (least_from(self.n, self.sums), most_from(self.n, self.sums))

    def copy(self):
        """Return a desk like this one, with what was taken back, apart from it from then on."""
        made = Desk(self.n)
        made._ropes = self._ropes
        made._edits = self._edits
        made._go_to(self.version)
        return made

    def __eq__(self, other):
        """Return whether other, any value, is a desk of as many letters with the same text."""
        return isinstance(other, Desk) and self.n == other.n and self.text == other.text


def _do_edit(desk, edit):
    """Do edit, any value, on desk; raise Unfit if it is none."""
    word = edit[0] if isinstance(edit, tuple) and len(edit) > 0 else None
    if word == "insert" and len(edit) == 3:
        desk.insert(edit[1], edit[2])
    elif word == "erase" and len(edit) == 3:
        desk.erase(edit[1], edit[2])
    elif word == "move" and len(edit) == 4:
        desk.move(edit[1], edit[2], edit[3])
    else:
        raise Unfit()


def desk_behind(n, value):
    """Return a desk of n letters by which all edits of value, any value, were done."""
    desk = Desk(n)
    if not isinstance(value, tuple):
        raise BadLog(0)
    for place, edit in enumerate(value):
        try:
            _do_edit(desk, edit)
        except ListError:
            raise BadLog(place)
    return desk
