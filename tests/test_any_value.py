"""Any value: what may be handed in as such is never more than refused, never changed, and told of alike each time."""

import copy
import importlib

from forwardlists.desks import Desk
from forwardlists.errors import ListError
from forwardlists.papers import alike_paper, gap_paper, ladder, meeting_paper
from forwardlists.ropes import rope_of
from forwardlists.shells import Shell
from tests.cases import Case, any_values
from tests.test_interface import INTERFACE, given_to


def own_values():
    """What this package returns, and such with parts changed; and, apart, values with desks and shells in them."""
    desk, shell = Desk(2), Shell()
    desk.insert(0, (1, 0, 1))
    shell.say("book letters a b;rule 0 0;")
    rope = rope_of(12, tuple(range(12)) * 33)
    values = [
        rope, rope[2], (rope,) * 40, rope[:2] + ((rope,) * 40,), desk.sums, desk.log, shell.book, list(rope),
        gap_paper((0, 0), (0, 1), (1, 0)), gap_paper((0, 0, 1), (0, 1, 2), (0, 1, 2)),
        meeting_paper((0, 1), (0, 1), (1, 0)), alike_paper(2, (0,), (1,)), ladder(12, rope[1]),
        shell.say("show"), shell.say("show") * 900,
    ]
    strange = [desk, shell, [desk], {0: shell}]
    for item in (desk, shell):
        strange += [(item,) * many for many in (1, 2, 3, 4, 6)]
        strange += [rope[:2] + (item,), rope[:2] + ((item,),), ("most", item, item), ("letter", 0, item)]
        strange += [("alike", item), ("text", item), ("insert", 0, item), (("insert", item, (0,)),)]
        strange.append(shell.book[:4] + (((item, ()),), ()))
    return values, strange


class AnyValue(Case):
    def outcome(self, call, given):
        """What a call returns, or the class and the fields of what it raises."""
        try:
            told = call(**given)
        except ListError as error:
            return (type(error), vars(error))
        return (told.log, told.text) if isinstance(told, Desk) else told

    def calls(self):
        """All functions that take any value, with all else that they take."""
        for name, functions in INTERFACE.items():
            for function, wanted in functions.items():
                words = [word for word in wanted.split() if word in ("value", "number", "at", "begin", "end")]
                call = getattr(importlib.import_module("forwardlists." + name), function)
                for word in words:
                    yield call, given_to(function, wanted), word

    def test_values_of_each_sort(self):
        values, _ = own_values()
        for call, given, word in self.calls():
            for value in any_values() + values:
                with self.subTest(call.__name__, word=word):
                    given[word] = value
                    before = copy.deepcopy(given)
                    told = self.outcome(call, given)
                    self.exact(given, before)
                    self.exact(self.outcome(call, given), told)

    def test_desks_and_shells_also_deep_within(self):
        _, strange = own_values()
        for call, given, word in self.calls():
            for value in strange:
                with self.subTest(call.__name__, word=word):
                    given[word] = value
                    told = self.outcome(call, given)
                    self.assertEqual(self.outcome(call, given), told)

    def test_desks_and_shells_handed_to_a_desk_and_a_shell(self):
        values, strange = own_values()
        desk, shell = Desk(2), Shell()
        desk.insert(0, (0, 1))
        for value in values + strange:
            self.exact(shell.say(value), "no book" if value == "show" else "what")
            for method in (desk.cost_by, desk.behind_by):
                with self.assertRaises(ListError):
                    method(value)
            for method in (desk.erase, desk.insert):
                with self.assertRaises(ListError):
                    method(value, value)
            for method in (desk.move, desk.part_cost):
                with self.assertRaises(ListError):
                    method(value, value, value)
            self.exact((desk.text, desk.version, desk == value, desk != value), ((0, 1), 1, False, True))
