"""Desks: texts that are edited, beside plain texts that are edited alongside."""

import itertools
import random

from forwardlists.asking import run
from forwardlists.coding import cost
from forwardlists.desks import Desk, desk_behind
from forwardlists.errors import BadLog, BadOrder, ListError, NothingToUndo, TooMany, TooManyEdits, Unfit
from forwardlists.orders import order_error
from forwardlists.ropes import rope_of
from forwardlists.rules import front
from forwardlists.summing import behind, cost_from, least_from, most_from
from tests.cases import Case, any_values, some_order
from tests.changing import changed_once
from tests.plain import Plain, is_number, some_edit
from tests.sums import summed


class Desks(Case):
    """A case that looks at desks."""

    def shown(self, desk):
        """All that can be read of a desk."""
        return (desk.n, desk.text, desk.length, desk.sums, desk.version, desk.log)

    def like(self, desk, plain):
        """A desk shows just what stands beside it."""
        text = plain.text
        log = tuple(plain.edits[:plain.version])
        self.exact(self.shown(desk), (plain.n, text, len(text), summed(text), plain.version, log))

    def does(self, desk, plain, edit):
        """The desk tells of an edit what its plain text tells, and shows the same behind it."""
        told = plain.do(edit)
        method = getattr(desk, edit[0])
        if isinstance(told, ListError):
            self.raises(told, method, *edit[1:])
        else:
            self.exact(method(*edit[1:]), told)
        self.like(desk, plain)

    def steps(self, desk, plain, by):
        """Likewise of undo and redo."""
        told = plain.step(by)
        method = desk.undo if by < 0 else desk.redo
        if isinstance(told, ListError):
            self.raises(told, method)
        else:
            self.exact(method(), told)
        self.like(desk, plain)


class Examples(Case):
    def test_examples(self):
        self.holds("""
            >>> from forwardlists.desks import Desk, desk_behind
            >>> d = Desk(3)
            >>> [d.insert(0, (1, 1, 2)), d.insert(3, (0, 2, 1, 1, 0)), d.text, d.length, d.sums]
            [1, 2, (1, 1, 2, 0, 2, 1, 1, 0), 8, (5, (1, 2, 0), (2, 1, 0))]
            >>> [d.move(2, 4, 0), d.text, d.erase(0, 2), d.text, d.undo(), d.length, d.redo(), d.log[2]]
            [3, (2, 0, 1, 1, 2, 1, 1, 0), 4, (1, 1, 2, 1, 1, 0), 3, 8, 4, ('move', 2, 4, 0)]
            >>> d.insert(7, (0,))
            raises Unfit()
            >>> d.move(0, 4, 3)
            raises Unfit()
            >>> d.insert(0, (3,))
            raises Unfit()
            >>> d.cost_by((0, 1, 2)), d.behind_by((0, 1, 2)), d.part_cost(2, 4, (0, 1, 2)), d.span(), Desk(4).span()
            (6, (0, 1, 2), 4, (4, 7), (0, 0))
            >>> e = d.copy()
            >>> e == d, e.erase(0, 6), e == d, d.length, e == Desk(3), Desk(3) == Desk(2)
            (True, 5, False, 6, True, False)
            >>> d.cost_by((0, 1))
            raises BadOrder('form')
            >>> desk_behind(3, d.log) == d, desk_behind(3, d.log).log == d.log, desk_behind(2, ()).text
            (True, True, ())
            >>> desk_behind(3, (("insert", 0, (1, 2)), ("erase", 1, 3)))
            raises BadLog(1)
        """)


class New(Desks):
    def test_of_each_number_of_letters(self):
        for n in range(1, 13):
            self.like(Desk(n), Plain(n))
            self.like(Desk(n=n), Plain(n))

    def test_of_any_value(self):
        for value in any_values() + [-1, 0, 13, 14, 2 ** 70, Desk(3)]:
            if is_number(value) and 1 <= value <= 12:
                self.like(Desk(value), Plain(value))
            else:
                self.raises(Unfit(), Desk, value)
                self.raises(Unfit(), desk_behind, value, ())
                self.raises(Unfit(), desk_behind, value, None)

    def test_what_it_shows_is_set_on_it_from_the_first_on(self):
        self.assertLessEqual({"n", "text", "length", "sums", "version", "log"}, set(vars(Desk(5))))


class Editing(Desks):
    def test_beside_a_plain_text(self):
        chance = random.Random(181)
        for at in range(60):
            n = chance.randint(1, 12)
            desk, plain = Desk(n), Plain(n)
            for _ in range(60):
                kind = chance.randint(0, 9)
                if kind < 7:
                    self.does(desk, plain, some_edit(chance, n, len(plain.text)))
                else:
                    self.steps(desk, plain, -1 if kind < 9 else 1)

    def test_every_edit_of_a_short_text(self):
        start = (("insert", 0, (1, 1, 2, 0)),)
        places = range(-1, 6)
        edits = [("insert", at, text) for at in places for text in ((), (0,), (2, 1), (3,), (-1,), [0])]
        edits += [("erase", begin, end) for begin, end in itertools.product(places, repeat=2)]
        edits += [("move",) + told for told in itertools.product(places, repeat=3)]
        for edit in edits:
            desk, plain = desk_behind(3, start), Plain(3)
            plain.do(start[0])
            self.does(desk, plain, edit)
            self.steps(desk, plain, -1)
            self.steps(desk, plain, 1)
            self.steps(desk, plain, 1)

    def test_arguments_that_may_be_any_value(self):
        desk, plain = Desk(2), Plain(2)
        self.does(desk, plain, ("insert", 0, (0, 1, 1)))
        values = any_values() + [desk, Desk(2), (desk,), rope_of(2, (0, 1)), desk.sums, desk.log]
        for value in values:
            for edit in (
                ("insert", value, (0,)), ("insert", 0, value), ("insert", value, value), ("erase", value, 3),
                ("erase", 0, value), ("erase", value, value), ("move", value, 3, 0), ("move", 0, value, 0),
                ("move", 0, 1, value), ("move", value, value, value),
            ):
                right = not isinstance(plain.edited(edit), ListError)
                self.does(desk, plain, edit)
                if right:
                    self.steps(desk, plain, -1)

    def test_what_is_handed_in_stays_as_it_was(self):
        for given in (([0], [1]), ({0: 0}, (1,)), (0, [1]), (0, (1,))):
            for method in ("insert", "erase"):
                self.keeps(getattr(Desk(2), method), *given)
        for value in any_values():
            self.keeps(Desk(2).insert, 0, value)
            self.keeps(Desk(2).move, value, value, value)
            self.keeps(Desk(2).part_cost, value, value, value)
            self.keeps(Desk(2).cost_by, value)
            self.keeps(Desk(2).behind_by, value)
            self.keeps(desk_behind, 2, value)

    def test_true_is_no_place_and_no_letter(self):
        desk, plain = Desk(2), Plain(2)
        self.does(desk, plain, ("insert", 0, (0, 1, 1)))
        for edit in (("insert", True, (0,)), ("insert", False, ()), ("insert", 0, (True,)), ("erase", False, 1),
                     ("erase", 0, True), ("move", False, 1, 0), ("move", 0, True, 0), ("move", 0, 1, True)):
            self.assertIsInstance(plain.edited(edit), Unfit)
            self.does(desk, plain, edit)

    def test_an_edit_by_which_the_text_stays_counts_and_forgets(self):
        for edit in (("insert", 1, ()), ("erase", 2, 2), ("move", 0, 2, 0), ("move", 1, 1, 2), ("move", 0, 3, 0)):
            desk, plain = Desk(3), Plain(3)
            self.does(desk, plain, ("insert", 0, (2, 1, 0)))
            self.does(desk, plain, ("erase", 0, 1))
            self.steps(desk, plain, -1)
            self.does(desk, plain, edit)
            self.exact((desk.version, desk.text), (2, (2, 1, 0)))
            self.steps(desk, plain, 1)
            self.steps(desk, plain, -1)
            self.steps(desk, plain, -1)
            self.steps(desk, plain, -1)

    def test_an_edit_that_is_refused_forgets_nothing(self):
        desk, plain = Desk(3), Plain(3)
        for at in range(3):
            self.does(desk, plain, ("insert", 0, (at,) * 5))
        self.steps(desk, plain, -1)
        self.steps(desk, plain, -1)
        for edit in (("insert", 0, (3,)), ("insert", 9, (0,)), ("insert", 0, (0,) * 400)):
            self.does(desk, plain, edit)
        for edit in (("erase", 3, 2), ("move", 0, 5, 1)):
            self.does(desk, plain, edit)
        self.steps(desk, plain, 1)
        self.steps(desk, plain, 1)
        self.steps(desk, plain, 1)

    def test_as_many_edits_as_stand_at_most(self):
        desk, plain = Desk(2), Plain(2)
        for at in range(40):
            self.does(desk, plain, ("insert", 0, (at % 2,)))
        for edit in (("insert", 0, ()), ("erase", 0, 0), ("move", 0, 0, 0), ("insert", 0, (1,)), ("erase", 0, 40)):
            self.raises(TooManyEdits(), getattr(desk, edit[0]), *edit[1:])
            self.does(desk, plain, edit)
        self.steps(desk, plain, -1)
        self.does(desk, plain, ("erase", 0, 39))
        self.does(desk, plain, ("insert", 0, (1,)))
        self.steps(desk, plain, 1)
        for _ in range(41):
            self.steps(desk, plain, -1)
        for _ in range(41):
            self.steps(desk, plain, 1)

    def test_as_many_letters_as_a_text_has_at_most(self):
        desk, plain = Desk(2), Plain(2)
        self.does(desk, plain, ("insert", 0, (1,) * 400))
        self.does(desk, plain, ("insert", 400, ()))
        self.raises(TooMany(400), desk.insert, 400, (0,))
        self.does(desk, plain, ("insert", 400, (0,)))
        self.does(desk, plain, ("move", 0, 400, 0))
        self.does(desk, plain, ("erase", 3, 4))
        self.does(desk, plain, ("insert", 0, (0, 0)))
        self.does(desk, plain, ("insert", 0, (0,)))
        # More letters than any text has are no text.
        self.raises(Unfit(), Desk(2).insert, 0, (1,) * 401)

    def test_the_errors_in_their_order(self):
        desk = Desk(2)
        for _ in range(40):
            desk.insert(0, (1,) * 10)
        shown = self.shown(desk)
        # Forty edits stand, and the text is full.
        self.raises(Unfit(), desk.insert, 401, (1,))
        self.raises(Unfit(), desk.insert, 0, (2,))
        self.raises(Unfit(), desk.insert, None, [0])
        self.raises(TooMany(400), desk.insert, 0, (1,))
        self.raises(TooManyEdits(), desk.insert, 0, ())
        self.raises(Unfit(), desk.erase, 2, 1)
        self.raises(TooManyEdits(), desk.erase, 1, 2)
        self.raises(Unfit(), desk.move, 2, 1, 0)
        self.raises(Unfit(), desk.move, 1, 2, 400)
        self.raises(TooManyEdits(), desk.move, 1, 2, 399)
        self.exact(self.shown(desk), shown)
        desk.undo()
        self.raises(Unfit(), desk.insert, -1, (1,) * 11)
        self.raises(TooMany(400), desk.insert, 0, (1,) * 11)
        self.exact(desk.redo(), 40)
        self.exact(self.shown(desk), shown)

    def test_what_was_read_does_not_change_later(self):
        desk = Desk(3)
        desk.insert(0, (1, 2))
        before = self.shown(desk)
        kept = repr(before)
        desk.insert(1, (0,))
        desk.erase(0, 1)
        desk.undo()
        self.exact(repr(before), kept)
        self.assertIs(type(desk.log), tuple)

    def test_by_name(self):
        desk, plain = Desk(n=3), Plain(3)
        self.exact(desk.insert(at=0, text=(2, 1, 0)), 1)
        self.exact(desk.erase(begin=0, end=1), 2)
        self.exact(desk.move(begin=0, end=1, to=1), 3)
        self.exact(desk.log, (("insert", 0, (2, 1, 0)), ("erase", 0, 1), ("move", 0, 1, 1)))
        self.exact((desk.cost_by(order=(0, 1, 2)), desk.behind_by(order=(2, 1, 0))), (1, (1, 0, 2)))
        self.exact(desk.part_cost(begin=1, end=2, order=(0, 1, 2)), 1)
        self.assertEqual(desk_behind(n=3, value=desk.log), desk)
        self.exact(plain.text, ())


class Telling(Desks):
    def check(self, chance, desk):
        """What a desk tells is what its text costs and leads to."""
        n, text = desk.n, desk.text
        shown = self.shown(desk)
        for _ in range(3):
            order = some_order(chance, n)
            self.exact(desk.cost_by(order), cost(front(n), order, text))
            self.exact(desk.cost_by(order), cost_from(desk.sums, order))
            self.exact(desk.behind_by(order), run(front(n), order, text))
            self.exact(desk.behind_by(order), behind(desk.sums, order))
            begin = chance.randint(0, len(text))
            end = chance.randint(begin, len(text))
            middle = chance.randint(begin, end)
            told = desk.part_cost(begin, end, order)
            self.exact(told, cost(front(n), order, text[begin:end]))
            # A part cut in two: the second one costs from where the first one leads.
            lead = run(front(n), order, text[begin:middle])
            self.exact(told, desk.part_cost(begin, middle, order) + desk.part_cost(middle, end, lead))
            self.exact(desk.part_cost(0, len(text), order), desk.cost_by(order))
            self.exact(desk.part_cost(begin, begin, order), 0)
        self.exact(desk.span(), (least_from(n, desk.sums), most_from(n, desk.sums)))
        self.exact(self.shown(desk), shown)

    def test_between_edits(self):
        chance = random.Random(182)
        for n in range(1, 13):
            desk, plain = Desk(n), Plain(n)
            self.check(chance, desk)
            for _ in range(30):
                self.does(desk, plain, some_edit(chance, n, len(plain.text)))
                self.check(chance, desk)
                if chance.random() < 0.3:
                    self.steps(desk, plain, -1)
                    self.check(chance, desk)

    def test_the_span_over_all_orders(self):
        desk = Desk(3)
        for letters in ((1, 2), (1,), (0, 0, 1), (2,)):
            desk.insert(desk.length // 2, letters)
            costs = [desk.cost_by(order) for order in itertools.permutations(range(3))]
            self.exact(desk.span(), (min(costs), max(costs)))

    def test_arguments_that_may_be_any_value(self):
        desk = Desk(2)
        desk.insert(0, (0, 1, 1))
        shown = self.shown(desk)
        for value in any_values() + [desk, (desk, 0)]:
            wrong = order_error(2, value)
            if wrong is None:
                self.exact(desk.cost_by(value), cost((0, 0), value, (0, 1, 1)))
            else:
                self.raises(BadOrder(wrong), desk.cost_by, value)
                self.raises(BadOrder(wrong), desk.behind_by, value)
                self.raises(BadOrder(wrong), desk.part_cost, 0, 3, value)
                self.raises(BadOrder(wrong), desk.part_cost, 1, 1, value)
            if not (is_number(value) and 0 <= value <= 3):
                self.raises(Unfit(), desk.part_cost, value, 3, (0, 1))
                self.raises(Unfit(), desk.part_cost, 0, value, (0, 1))
                # Places are told of ahead of the order.
                self.raises(Unfit(), desk.part_cost, value, 3, value)
            self.exact(self.shown(desk), shown)
        self.raises(Unfit(), desk.part_cost, 2, 1, (0, 1))
        self.raises(Unfit(), desk.part_cost, 0, 4, (0, 0))
        self.raises(BadOrder(("twice", 1)), desk.part_cost, 0, 3, (0, 0))
        self.raises(BadOrder(("letter", 1)), desk.cost_by, (0, 2))
        self.exact(self.shown(desk), shown)


class Copies(Desks):
    def test_a_copy_goes_its_own_way(self):
        chance = random.Random(183)
        for _ in range(25):
            n = chance.randint(1, 12)
            desk, plain = Desk(n), Plain(n)
            for _ in range(chance.randint(0, 12)):
                self.does(desk, plain, some_edit(chance, n, len(plain.text)))
            for _ in range(chance.randint(0, 3)):
                self.steps(desk, plain, -1)
            other, further = desk.copy(), Plain(n)
            further.texts, further.edits, further.version = list(plain.texts), list(plain.edits), plain.version
            self.like(other, further)
            self.assertIs(type(other), Desk)
            for one, beside in ((desk, plain), (other, further)) * 4:
                if chance.random() < 0.5:
                    self.steps(one, beside, chance.choice((-1, 1)))
                else:
                    self.does(one, beside, some_edit(chance, n, len(beside.text)))
                self.like(desk, plain)
                self.like(other, further)

    def test_what_was_taken_back_with_it(self):
        desk = Desk(2)
        desk.insert(0, (1,))
        desk.insert(0, (0,))
        desk.undo()
        desk.undo()
        other = desk.copy()
        self.exact((other.redo(), other.redo(), other.text), (1, 2, (0, 1)))
        self.exact((desk.version, desk.text), (0, ()))
        self.exact(other.undo(), 1)
        other.erase(0, 1)
        self.raises(NothingToUndo(), other.redo)
        self.exact((desk.redo(), desk.redo(), desk.text), (1, 2, (0, 1)))


class Comparing(Desks):
    def test_alike_by_text_and_number_of_letters_alone(self):
        desks = [Desk(n) for n in (1, 2, 2, 3)]
        for n in (2, 2, 3, 12):
            for text in ((0, 1), (1, 0), (0,), (0, 1)):
                desk = Desk(n)
                desk.insert(0, text[:1])
                desk.insert(1, text[1:])
                desks.append(desk)
        full = Desk(2)
        full.insert(0, (0, 1, 1))
        full.erase(2, 3)
        desks.append(full)
        for one, other in itertools.product(desks, repeat=2):
            alike = one.n == other.n and one.text == other.text
            self.exact((one == other, one != other), (alike, not alike))
        self.exact((full == full.copy(), full != full.copy()), (True, False))

    def test_beside_any_value(self):
        for desk in (Desk(1), Desk(12)):
            for value in any_values() + [desk.text, desk.sums, desk.log, (desk,), [desk]]:
                self.exact((desk == value, desk != value, value == desk, value != desk), (False, True, False, True))


class Logs(Desks):
    def test_a_desk_behind_its_log(self):
        chance = random.Random(185)
        for _ in range(40):
            n = chance.randint(1, 12)
            desk, plain = Desk(n), Plain(n)
            for _ in range(chance.randint(0, 40)):
                self.does(desk, plain, some_edit(chance, n, len(plain.text)))
                if chance.random() < 0.1:
                    self.steps(desk, plain, -1)
            other = desk_behind(n, desk.log)
            self.assertTrue(other == desk)
            self.exact(self.shown(other), self.shown(desk))
            # It goes back likewise, and has nothing of what was taken back.
            self.raises(NothingToUndo(), other.redo)
            while desk.version > 0:
                self.exact((other.undo(), other.text), (desk.undo(), desk.text))
            self.raises(NothingToUndo(), other.undo)

    def wanted(self, n, log):
        """The place of the first item that is no edit or is refused, None if all are done."""
        plain = Plain(n)
        kinds = {"insert": 3, "erase": 3, "move": 4}
        for place, edit in enumerate(log):
            if type(edit) is not tuple or not edit or type(edit[0]) is not str or kinds.get(edit[0]) != len(edit):
                return place
            if isinstance(plain.do(edit), ListError):
                return place
        return None

    def check(self, n, log):
        place = self.wanted(n, log) if type(log) is tuple else 0
        if place is None:
            self.exact(desk_behind(n, log).log, log)
        else:
            self.raises(BadLog(place), desk_behind, n, log)

    def test_logs_with_a_part_changed(self):
        log = (("insert", 0, (0, 1, 2)), ("move", 0, 2, 1), ("insert", 3, (1,)), ("erase", 1, 3), ("move", 0, 1, 1))
        self.check(3, log)
        found = set()
        for value in changed_once(log):
            self.check(3, value)
            if type(value) is tuple:
                found.add(self.wanted(3, value))
        self.assertLessEqual({None, 0, 1, 2, 3, 4}, found)

    def test_a_fault_in_the_midst(self):
        right = ("insert", 0, (0,))
        wrong = [
            (), ("insert",), ("insert", 0), ("insert", 0, (0,), 0), ("erase", 0), ("erase", 0, 0, 0), ("move", 0, 0),
            ("move", 0, 0, 0, 0), ("undo",), ("redo",), ("copy",), ("Insert", 0, (0,)), ["insert", 0, (0,)], "insert",
            ("insert", 0, [0]), ("insert", 9, (0,)), ("insert", 0, (2,)), ("insert", 0, (0,) * 399), ("erase", 0, 9),
            ("move", 0, 1, 9), ("insert", True, (0,)), (None, 0, (0,)), (["insert"], 0, (0,)), ({}, 0, 0),
            (Desk(2), 0, 0),
        ]
        for edit in wrong + any_values():
            for ahead in (2, 5):
                self.raises(BadLog(ahead), desk_behind, 2, (right,) * ahead + (edit, right))
                self.raises(BadLog(ahead), desk_behind, 2, (right,) * ahead + (edit, ()))

    def test_any_value(self):
        for value in any_values():
            self.check(2, value)
            self.check(2, (("insert", 0, (0, 1)), value))
        for value in ([], [("insert", 0, (0,))], {}, None, "", Desk(2)):
            self.raises(BadLog(0), desk_behind, 2, value)
        self.exact(desk_behind(2, ()).version, 0)

    def test_as_many_edits_as_stand_at_most(self):
        edit = ("insert", 0, (1,))
        self.exact(desk_behind(2, (edit,) * 40).version, 40)
        self.raises(BadLog(40), desk_behind, 2, (edit,) * 41)
        self.raises(BadLog(40), desk_behind, 2, (edit,) * 80)
        self.raises(BadLog(1), desk_behind, 2, (("insert", 0, (1,) * 400), edit))

    def test_what_n_is_comes_first(self):
        for n in (0, 13, None, True, (3,)):
            self.raises(Unfit(), desk_behind, n, [])
            self.raises(Unfit(), desk_behind, n, ((),))
