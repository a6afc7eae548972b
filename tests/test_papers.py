"""Papers: what the makers make, and what the judges tell of right and wrong ones."""

import itertools
import random

from forwardlists.alike import alike
from forwardlists.asking import run
from forwardlists.blocks import blocks, is_front
from forwardlists.classes import comes_out, least_order
from forwardlists.coding import cost
from forwardlists.desks import Desk
from forwardlists.errors import TooMany, Unfit
from forwardlists.gaining import gains, gains_error
from forwardlists.gaps import unlike
from forwardlists.meeting import meets
from forwardlists.orders import order_error, text_error
from forwardlists.papers import alike_paper, alike_paper_error, gap_paper, gap_paper_error, ladder, ladder_error
from forwardlists.papers import meeting_paper, meeting_paper_error
from forwardlists.rules import front
from forwardlists.summing import cost_from, least_from, most_from
from tests.cases import STAYING, Case, all_orders, all_out, any_values, rules_up_to, some_order, some_rules, some_text
from tests.changing import changed_once, some_change
from tests.sums import all_rows, fewest_turns, short_texts, some_sums, summed

EIGHT = tuple(range(8))
MIXED = (0, 1, 0, 3, 3)


def begins(value, many, word):
    """Whether value is a tuple of so many items, the first of which is this word."""
    return type(value) is tuple and len(value) == many and type(value[0]) is str and value[0] == word


def gap_fault(rule, one, other, value):
    """What is wrong with value as a gap paper, by the words of the document."""
    if not is_front(rule):
        if not begins(value, 4, "endless"):
            return "form"
        error = gains_error(rule, value[1:])
        return None if error is None else ("gains", error)
    if not begins(value, 3, "most"):
        return "form"
    most = unlike(one, other)
    if type(value[1]) is not int or value[1] != most:
        return "number"
    text = value[2]
    if text_error(len(rule), text) is not None:
        return "text"
    return None if cost(rule, one, text) == cost(rule, other, text) + most else "text"


def meeting_fault(rule, one, other, value):
    """What is wrong with value as a meeting paper, by the words of the document."""
    if begins(value, 2, "text"):
        text = value[1]
        if text_error(len(rule), text) is None and run(rule, one, text) == run(rule, other, text):
            return None
        return "text"
    if begins(value, 3, "letter"):
        _, letter, block = value
        for begin, end in blocks(rule):
            if repr(block) == repr((begin, end)):
                places = [own.index(letter) for own in (one, other)] if type(letter) is int and letter in one else []
                if sum(begin <= place < end for place in places) == 1:
                    return None
        return "letter"
    if begins(value, 3, "class"):
        try:
            least, further = least_order(rule, one), least_order(rule, other)
        except TooMany:
            return "class"
        return None if repr(value[1:]) == repr((least, further)) and least != further else "class"
    return "form"


def alike_fault(n, one, other, value):
    """What is wrong with value as an alike paper, by the words of the document."""
    if begins(value, 1, "alike"):
        return None if alike(n, one, other) else "alike"
    if not begins(value, 3, "apart"):
        return "form"
    if order_error(n, value[1]) is not None:
        return "order"
    if text_error(n, value[2]) is not None:
        return "text"
    costs = [cost(front(n), value[1], text + value[2]) for text in (one, other)]
    return "cost" if costs[0] == costs[1] else None


def ladder_fault(n, sums, value):
    """What is wrong with value as a ladder, by the words of the document."""
    if type(value) is not tuple or not 1 <= len(value) <= 67:
        return "form"
    for place, order in enumerate(value):
        if order_error(n, order) is not None:
            return ("order", place)
    for place in range(1, len(value)):
        ahead = value[place - 1]
        swapped = [ahead[:at] + (ahead[at + 1], ahead[at]) + ahead[at + 2:] for at in range(n - 1)]
        if value[place] not in swapped:
            return ("step", place)
    if cost_from(sums, value[0]) != least_from(n, sums):
        return "least"
    return None if cost_from(sums, value[-1]) == most_from(n, sums) else "greatest"


class Examples(Case):
    def test_examples_of_gap_papers(self):
        self.holds("""
            >>> from forwardlists.papers import alike_paper, alike_paper_error, gap_paper, gap_paper_error, ladder, ladder_error, meeting_paper, meeting_paper_error
            >>> ahead, halves, mixed = (0, 0, 0), (0, 0, 1), (0, 1, 0, 3, 3)
            >>> [gap_paper_error(ahead, (0, 1, 2), (2, 1, 0), value) for value in (("most", 3, (2, 1, 0)), ("most", 2, (2, 1, 0)), ("most", 3, (0,)), ("most", 3, (3,)), ("most", 3), ("endless", (0, 1, 2), (), (0,)), None)]
            [None, 'number', 'text', 'text', 'form', 'form', 'form']
            >>> gap_paper(ahead, (0, 1, 2), (2, 1, 0))[:2], gap_paper(ahead, (1, 0, 2), (1, 0, 2))[:2], gap_paper(halves, (0, 1, 2), (0, 1, 2))[0]
            (('most', 3), ('most', 0), 'endless')
            >>> gap_paper_error(halves, (0, 1, 2), (0, 1, 2), ("endless", (0, 1, 2), (1, 2), (2, 1))), gap_paper_error(halves, (0, 1, 2), (0, 1, 2), ("endless", (0, 1, 2), (), (2, 1)))[0], gap_paper_error(halves, (0, 1, 2), (0, 1, 2), ("most", 0, ()))
            (None, 'gains', 'form')
            >>> gap_paper((0, 1, 1), (0, 1, 2), (1, 0, 2))
            raises Unfit()
        """)

    def test_examples_of_meeting_papers(self):
        self.holds("""
            >>> from forwardlists.papers import meeting_paper, meeting_paper_error
            >>> ahead, halves, mixed = (0, 0, 0), (0, 0, 1), (0, 1, 0, 3, 3)
            >>> meeting_paper(mixed, (0, 1, 2, 3, 4), (1, 0, 2, 3, 4)), meeting_paper(mixed, (0, 1, 2, 3, 4), (2, 0, 1, 4, 3))[0]
            (('class', (0, 1, 2, 3, 4), (0, 2, 1, 3, 4)), 'text')
            >>> [meeting_paper_error(mixed, (0, 1, 2, 3, 4), (2, 0, 1, 4, 3), value) for value in (("text", (2, 3)), ("text", (2,)), ("text", (5,)), ("letter", 0, (0, 3)), ("class", (0, 1, 2, 3, 4), (0, 1, 2, 3, 4)), ("text",), ["text", (2, 3)])]
            [None, 'text', 'text', 'letter', 'class', 'form', 'form']
            >>> [meeting_paper_error(mixed, (0, 1, 2, 3, 4), (0, 1, 3, 2, 4), value) for value in (("letter", 3, (0, 3)), ("letter", 2, (0, 3)), ("letter", 2, (3, 5)), ("letter", 4, (3, 5)), ("letter", 3, (0, 2)), ("class", (0, 1, 2, 3, 4), (0, 1, 3, 2, 4)))]
            [None, None, None, 'letter', 'letter', None]
            >>> meeting_paper_error((0, 1) + (0,) * 6, (0, 1, 2, 3, 4, 5, 6, 7), (1, 0, 2, 3, 4, 5, 6, 7), ("class", (0, 1, 2, 3, 4, 5, 6, 7), (1, 0, 2, 3, 4, 5, 6, 7)))
            'class'
        """)

    def test_examples_of_alike_papers_and_ladders(self):
        self.holds("""
            >>> from forwardlists.papers import alike_paper, alike_paper_error, ladder, ladder_error
            >>> alike_paper(3, (1,), (1, 1)), alike_paper(3, (1, 2), (2, 1))[0], alike_paper_error(3, (1, 2), (2, 1), alike_paper(3, (1, 2), (2, 1)))
            (('alike',), 'apart', None)
            >>> [alike_paper_error(3, (1, 2), (2, 1), value) for value in (("apart", (0, 1, 2), ()), ("alike",), ("apart", (0, 1, 2)), ("apart", (0, 1), ()), ("apart", (0, 1, 2), (3,)), "alike")]
            [None, 'alike', 'form', 'order', 'text', 'form']
            >>> alike_paper_error(3, (1,), (1, 1), ("apart", (0, 1, 2), (2, 0, 1)))
            'cost'
            >>> from forwardlists.summing import cost_from
            >>> some = (1, (1, 2), (2, 1))
            >>> rungs = ((1, 2, 0), (1, 0, 2), (0, 1, 2), (0, 2, 1))
            >>> ladder_error(3, some, rungs), [cost_from(some, order) for order in rungs], ladder_error(3, some, ladder(3, some))
            (None, [2, 3, 4, 5], None)
            >>> [ladder_error(3, some, value) for value in (rungs[1:], rungs[:3], (rungs[0], rungs[2]), (rungs[0], (1, 0)), (), list(rungs), rungs[:1] * 2)]
            ['least', 'greatest', ('step', 1), ('order', 1), 'form', 'form', ('step', 1)]
        """)


class Judging(Case):
    """A case that hands the judges right papers with parts changed."""

    def wrong(self, judge, fault, given, papers):
        """Judge and the document's words agree on each paper with one part changed; returns what was told."""
        found = set()
        for paper in papers:
            self.exact(judge(*given, paper), None)
            for value in changed_once(paper):
                wanted = fault(*given, value)
                self.exact(judge(*given, value), wanted)
                found.add(wanted)
        return found

    def doubly_wrong(self, judge, fault, given, papers, chance, many=400):
        """Likewise with two or three parts changed."""
        for _ in range(many):
            value = chance.choice(papers)
            for _ in range(chance.randint(2, 3)):
                value = some_change(chance, value)
            self.exact(judge(*given, value), fault(*given, value))

    def strange(self, judge, fault, given, words):
        """Any value, also where a paper has a part of it, is judged and stays as it was."""
        for value in any_values():
            self.exact(judge(*given, value), fault(*given, value))
            for word in words:
                for many in (1, 2, 3):
                    paper = (word,) + (value,) * many
                    self.exact(judge(*given, paper), fault(*given, paper))
            self.keeps(judge, *given, value)
        self.exact(judge(*given, Desk(3)), "form")
        self.exact(judge(*given, (Desk(3),) * 3), fault(*given, (Desk(3),) * 3))


class GapPapers(Judging):
    def test_all_rules_of_one_to_four_places(self):
        for rule in rules_up_to(4):
            orders = all_orders(len(rule))
            for one, other in itertools.product(orders[::3], orders):
                if is_front(rule) and not comes_out(rule, one, other):
                    for value in (None, ("most", unlike(one, other), other), ("endless",)):
                        self.raises(Unfit(), gap_paper_error, rule, one, other, value)
                    self.raises(Unfit(), gap_paper, rule, one, other)
                    continue
                paper = gap_paper(rule, one, other)
                self.exact(gap_fault(rule, one, other, paper), None)
                self.exact(gap_paper_error(rule, one, other, paper), None)
                self.exact(paper[0], "most" if is_front(rule) else "endless")

    def test_rules_of_up_to_twelve_places(self):
        chance = random.Random(191)
        for rule in some_rules(60, 192, 5, 12) + [front(12), STAYING, (0, 0, 0, 3, 3, 3, 6, 6, 6, 6, 10, 10)]:
            one = some_order(chance, len(rule))
            other = run(rule, one, some_text(chance, len(rule), 50))
            paper = gap_paper(rule, one, other)
            self.exact(gap_fault(rule, one, other, paper), None)
            self.exact(gap_paper_error(rule, one, other, paper), None)

    def test_a_right_paper_bounds_all_texts_from_both_sides(self):
        for rule in ((0, 0, 0), (0, 0, 2), (0, 1, 1), (0, 1, 2)):
            for one in all_orders(3):
                for other in all_out(rule, one):
                    gaps = [cost(rule, one, text) - cost(rule, other, text) for text in short_texts(3, 4)]
                    self.exact(gap_paper(rule, one, other)[1], max(gaps))
                    for number in range(-1, 5):
                        papers = [("most", number, text) for text in short_texts(3, 3)]
                        told = [gap_paper_error(rule, one, other, paper) for paper in papers]
                        self.assertEqual(None in told, number == max(gaps))

    def test_an_endless_paper_gains_ever_more(self):
        for rule in rules_up_to(4):
            if not is_front(rule):
                own = tuple(range(len(rule)))
                _, start, lead, text = gap_paper(rule, own, own)
                there = run(rule, start, lead)
                gained = [cost(rule, start, text * many) - cost(rule, there, text * many) for many in range(4)]
                self.assertEqual(sorted(set(gained)), gained)

    def test_most_with_parts_changed(self):
        chance = random.Random(193)
        given = ((0, 0, 0), (0, 1, 2), (2, 1, 0))
        papers = [("most", 3, (2, 1, 0)), ("most", 3, (2, 1, 0, 0, 0)), gap_paper(*given)]
        self.assertEqual(self.wrong(gap_paper_error, gap_fault, given, papers), {None, "form", "number", "text"})
        self.doubly_wrong(gap_paper_error, gap_fault, given, papers, chance)
        self.strange(gap_paper_error, gap_fault, given, ("most", "endless"))
        given = ((0, 0, 2, 2), (1, 0, 2, 3), (0, 1, 3, 2))
        self.wrong(gap_paper_error, gap_fault, given, [("most", 2, (0, 1, 3, 2)), ("most", 2, (0, 3))])

    def test_a_number_is_told_of_ahead_of_a_text(self):
        given = ((0, 0), (0, 1), (1, 0))
        self.exact(gap_paper_error(*given, ("most", 1, (1,))), None)
        self.exact(gap_paper_error(*given, ("most", True, (1,))), "number")
        self.exact(gap_paper_error(*given, ("most", 2, None)), "number")
        self.exact(gap_paper_error(*given, ("most", 1, (True,))), "text")
        self.exact(gap_paper_error((0, 0), (0, 1), (0, 1), ("most", False, ())), "number")
        self.exact(gap_paper_error((0, 0), (0, 1), (0, 1), ("most", 0, ())), None)
        self.exact(gap_paper_error(*given, ("most", 1, (1,) * 400)), None)
        self.exact(gap_paper_error(*given, ("most", 1, (1,) * 401)), "text")

    def test_endless_with_parts_changed(self):
        chance = random.Random(194)
        given = ((0, 0, 1), (0, 1, 2), (0, 1, 2))
        papers = [("endless", (0, 1, 2), (1, 2), (2, 1)), gap_paper(*given), ("endless",) + gains((0, 0, 1))]
        told = self.wrong(gap_paper_error, gap_fault, given, papers)
        wanted = {("gains", error) for error in ("order", "lead", "text", "back", "cost")}
        self.assertEqual(told, wanted | {None, "form"})
        self.doubly_wrong(gap_paper_error, gap_fault, given, papers, chance)
        self.strange(gap_paper_error, gap_fault, given, ("endless", "most"))

    def test_the_orders_do_not_matter_to_an_endless_one(self):
        # By (0, 1, 0) both orders are not of one class; by the rule with eight places nothing is told of classes.
        for rule, one, other in (((0, 1, 0), (0, 1, 2), (1, 0, 2)), (STAYING, EIGHT, EIGHT[::-1])):
            paper = gap_paper(rule, one, other)
            self.exact(paper[0], "endless")
            self.exact(gap_paper_error(rule, one, other, paper), None)
            self.exact(gap_paper_error(rule, other, other, paper), None)
            self.exact(gap_paper_error(rule, one, other, ("most", 0, ())), "form")

    def test_by_name_and_nothing_is_changed(self):
        paper = gap_paper(rule=(0, 0), one=(0, 1), other=(1, 0))
        self.exact(gap_paper_error(rule=(0, 0), one=(0, 1), other=(1, 0), value=paper), None)
        self.keeps(gap_paper, (0, 0, 1), (0, 1, 2), (2, 1, 0))
        self.keeps(gap_paper, (0, 1, 1), (0, 1, 2), (1, 0, 2))
        self.keeps(gap_paper_error, (0, 0), (0, 1), (1, 0), ["most", [1], [(1,)]])


class MeetingPapers(Judging):
    def letters_of(self, rule, one, other):
        """All right papers that tell a letter."""
        return [
            ("letter", letter, (begin, end)) for begin, end in blocks(rule) for letter in one
            if (letter in one[begin:end]) != (letter in other[begin:end])
        ]

    def test_all_rules_of_one_to_four_places(self):
        for rule in rules_up_to(4):
            orders = all_orders(len(rule))
            for one, other in itertools.product(orders[::5], orders):
                paper = meeting_paper(rule, one, other)
                self.exact(meeting_fault(rule, one, other, paper), None)
                self.exact(meeting_paper_error(rule, one, other, paper), None)
                right = self.letters_of(rule, one, other)
                for letter in right:
                    self.exact(meeting_paper_error(rule, one, other, letter), None)
                # There are never right ones of both sorts.
                least = ("class", least_order(rule, one), least_order(rule, other))
                met = meets(rule, one, other)
                self.exact(meeting_paper_error(rule, one, other, least), "class" if met else None)
                self.assertEqual(paper[0] == "text", met)
                self.assertFalse(met and right)

    def test_rules_of_up_to_twelve_places(self):
        chance = random.Random(195)
        long_rules = [front(12), (0,) + tuple(range(11)), (0, 1, 1) + (3,) * 9]
        for rule in some_rules(80, 196, 5, 7) + long_rules:
            one = some_order(chance, len(rule))
            for other in (run(rule, one, some_text(chance, len(rule), 30)), some_order(chance, len(rule))):
                paper = meeting_paper(rule, one, other)
                self.exact(meeting_fault(rule, one, other, paper), None)
                self.exact(meeting_paper_error(rule, one, other, paper), None)

    def test_a_letter_paper_for_each_letter_and_each_block(self):
        rule, one, other = MIXED, (0, 1, 2, 3, 4), (0, 1, 3, 2, 4)
        parts = ((0, 3), (3, 5), (0, 5), (0, 1), (3, 0), ())
        told = [("letter", letter, part) for letter in range(-1, 6) for part in parts]
        right = [paper for paper in told if meeting_paper_error(rule, one, other, paper) is None]
        self.exact(right, [("letter", letter, block) for letter in (2, 3) for block in ((0, 3), (3, 5))])
        for paper in told:
            self.exact(meeting_paper_error(rule, one, other, paper), meeting_fault(rule, one, other, paper))

    def test_papers_with_parts_changed(self):
        chance = random.Random(197)
        plain = (0, 1, 2, 3, 4)
        for given, papers in (
            ((MIXED, plain, (2, 0, 1, 4, 3)), [("text", (2, 3))]),
            ((MIXED, plain, (0, 1, 3, 2, 4)), [("letter", 3, (0, 3)), ("letter", 2, (3, 5))]),
            ((MIXED, plain, (0, 2, 1, 3, 4)), [("class", plain, (0, 2, 1, 3, 4))]),
            (((0, 1), (0, 1), (1, 0)), [("class", (0, 1), (1, 0)), ("letter", 0, (0, 1)), ("letter", 1, (1, 2))]),
        ):
            told = self.wrong(meeting_paper_error, meeting_fault, given, papers)
            self.assertLessEqual({None, "form", papers[0][0]}, told)
            self.doubly_wrong(meeting_paper_error, meeting_fault, given, papers, chance)
            self.strange(meeting_paper_error, meeting_fault, given, ("text", "letter", "class"))

    def test_true_is_no_letter_and_no_place(self):
        given = ((0, 1), (0, 1), (1, 0))
        self.exact(meeting_paper_error(*given, ("letter", 1, (0, 1))), None)
        for letter, block in ((True, (0, 1)), (1, (False, 1)), (1, (0, True)), (False, (0, 1))):
            self.exact(meeting_paper_error(*given, ("letter", letter, block)), "letter")
        self.exact(meeting_paper_error(*given, ("class", (0, 1), (1, 0))), None)
        for paper in (("class", (False, 1), (1, 0)), ("class", (0, True), (1, 0)), ("class", (0, 1), (True, False))):
            self.exact(meeting_paper_error(*given, paper), "class")
        self.exact(meeting_paper_error((0, 0), (0, 1), (1, 0), ("text", (True,))), "text")
        self.exact(meeting_paper_error((0, 0), (0, 1), (1, 0), ("text", (1,))), None)

    def test_a_class_paper_with_orders_that_are_not_the_least_ones(self):
        one, other = (1, 2, 0, 4, 3), (0, 2, 1, 3, 4)
        self.exact(meeting_paper_error(MIXED, one, other, ("class", (0, 1, 2, 3, 4), (0, 2, 1, 3, 4))), None)
        for paper in (
            ("class", one, other), ("class", (0, 2, 1, 3, 4), (0, 1, 2, 3, 4)),
            ("class", (0, 1, 2, 3, 4), (0, 1, 2, 3, 4)),
            ("class", [0, 1, 2, 3, 4], (0, 2, 1, 3, 4)), ("class", (0, 1, 2), (0, 2, 1)),
        ):
            self.exact(meeting_paper_error(MIXED, one, other, paper), "class")

    def test_rules_of_which_nothing_is_told(self):
        other = (1, 0) + EIGHT[2:]
        rule = STAYING + (8, 8)
        for own, here, there in ((STAYING, EIGHT, other), (rule, EIGHT + (8, 9), EIGHT[:7] + (8, 7, 9))):
            self.raises(TooMany(7), meeting_paper, own, here, there)
            self.raises(TooMany(7), meeting_paper, own, here, here)
            self.exact(meeting_paper_error(own, here, there, ("class", here, there)), "class")
            self.exact(meeting_paper_error(own, here, there, ("class", None, None)), "class")
            self.exact(meeting_paper_error(own, here, there, ("class", None)), "form")
            # A text or a letter is looked at all the same.
            self.exact(meeting_paper_error(own, here, here, ("text", ())), None)
            self.exact(meeting_paper_error(own, here, there, ("text", ())), "text")
            self.exact(meeting_paper_error(own, here, there, ("letter", 0, (0, 8))), "letter")
        self.exact(meeting_paper_error(rule, EIGHT + (8, 9), EIGHT[:7] + (8, 7, 9), ("letter", 7, (0, 8))), None)
        self.exact(meeting_paper_error(rule, EIGHT + (8, 9), EIGHT[:7] + (8, 7, 9), ("letter", 8, (8, 10))), None)

    def test_by_name_and_nothing_is_changed(self):
        paper = meeting_paper(rule=(0, 0), one=(0, 1), other=(1, 0))
        self.exact(meeting_paper_error(rule=(0, 0), one=(0, 1), other=(1, 0), value=paper), None)
        self.keeps(meeting_paper, MIXED, (0, 1, 2, 3, 4), (2, 0, 1, 4, 3))
        self.keeps(meeting_paper_error, MIXED, (0, 1, 2, 3, 4), (2, 0, 1, 4, 3), ("letter", [0], {0: 3}))


class AlikePapers(Judging):
    def check(self, n, one, other):
        paper = alike_paper(n, one, other)
        self.exact(alike_fault(n, one, other, paper), None)
        self.exact(alike_paper_error(n, one, other, paper), None)
        same = alike(n, one, other)
        self.exact(paper[0], "alike" if same else "apart")
        self.exact(alike_paper_error(n, one, other, ("alike",)), None if same else "alike")
        return same

    def test_all_pairs_of_short_texts(self):
        for n, most in ((1, 4), (2, 5), (3, 3), (4, 2)):
            for one, other in itertools.product(short_texts(n, most), repeat=2):
                if self.check(n, one, other):
                    # No right ("apart", ..) is there as well.
                    for order in all_orders(n)[::2]:
                        for more in ((), (0,), tuple(range(n))):
                            self.exact(alike_paper_error(n, one, other, ("apart", order, more)), "cost")

    def test_long_texts_of_up_to_twelve_letters(self):
        chance = random.Random(198)
        for n in range(1, 13):
            one, other = some_text(chance, n, 400), some_text(chance, n, 400)
            for first, second in ((one, one), (one, other), (one, ()), (one, one[:-1]), ((), other)):
                self.check(n, first, second)
            # Both texts with more behind are longer than any text.
            self.exact(alike_paper_error(n, one, one, ("apart", tuple(range(n)), one)), "cost")
            told = alike_paper_error(n, one, other, ("apart", tuple(range(n)), one))
            self.exact(told, alike_fault(n, one, other, ("apart", tuple(range(n)), one)))

    def test_papers_with_parts_changed(self):
        chance = random.Random(199)
        given = (3, (1, 2), (2, 1))
        papers = [("apart", (0, 1, 2), ()), ("apart", (2, 0, 1), (0, 1)), alike_paper(*given)]
        told = self.wrong(alike_paper_error, alike_fault, given, papers)
        self.assertEqual(told, {None, "form", "order", "text", "cost"})
        self.doubly_wrong(alike_paper_error, alike_fault, given, papers, chance)
        self.strange(alike_paper_error, alike_fault, given, ("apart", "alike"))
        given = (3, (1,), (1, 1))
        self.assertEqual(self.wrong(alike_paper_error, alike_fault, given, [("alike",)]), {None, "form"})
        self.strange(alike_paper_error, alike_fault, given, ("apart", "alike"))

    def test_what_is_wrong_first(self):
        given = (3, (1,), (1, 1))
        self.exact(alike_paper_error(*given, ("apart", (0, 1), (3,))), "order")
        self.exact(alike_paper_error(*given, ("apart", (0, 1, 2), (3,))), "text")
        self.exact(alike_paper_error(*given, ("apart", (0, 1, 2), (0,) * 401)), "text")
        self.exact(alike_paper_error(*given, ("apart", (0, 1, 2), (0,) * 400)), "cost")
        self.exact(alike_paper_error(*given, ("apart", (0, True, 2), ())), "order")
        self.exact(alike_paper_error(*given, ("apart", (0, 1, 2), (True,))), "text")
        plain = (0, 1, 2)
        for value in (("alike", None), ("apart",), ("apart", plain), ("apart", plain, (), ()), ["alike"], ("Alike",)):
            self.exact(alike_paper_error(*given, value), "form")

    def test_by_name_and_nothing_is_changed(self):
        paper = alike_paper(n=3, one=(1, 2), other=(2, 1))
        self.exact(alike_paper_error(n=3, one=(1, 2), other=(2, 1), value=paper), None)
        self.keeps(alike_paper, 3, (1, 2), (2, 1))
        self.keeps(alike_paper_error, 3, (1, 2), (2, 1), ("apart", [0, 1, 2], [[]]))


class Ladders(Judging):
    def check(self, n, sums):
        rungs = ladder(n, sums)
        self.exact(ladder_fault(n, sums, rungs), None)
        self.exact(ladder_error(n, sums, rungs), None)
        costs = [cost_from(sums, order) for order in rungs]
        self.assertTrue(all(abs(cost - ahead) <= 1 for ahead, cost in zip(costs, costs[1:])))
        self.assertLessEqual(set(range(least_from(n, sums), most_from(n, sums) + 1)), set(costs))
        return rungs

    def test_all_firsts_and_lasts_of_few_letters(self):
        for n in range(1, 5):
            for firsts, lasts in all_rows(n):
                turns = fewest_turns(firsts, lasts)
                self.check(n, (turns, firsts, lasts))
                if len(firsts) > 1:
                    self.check(n, (turns + 2000, firsts, lasts))

    def test_up_to_twelve_letters(self):
        chance = random.Random(201)
        for n in range(1, 13):
            for _ in range(15):
                self.check(n, some_sums(chance, n))
            self.check(n, summed(some_text(chance, n, 400)))
        self.exact(len(self.check(12, summed(tuple(range(12))))), 67)
        self.exact(len(self.check(12, summed(tuple(range(11))))), 67)
        self.check(12, (0, (), ()))

    def test_ladders_that_go_round_about(self):
        some = (1, (1, 2), (2, 1))
        up = ((1, 2, 0), (1, 0, 2), (0, 1, 2), (0, 2, 1))
        self.exact(ladder_error(3, some, up[:2] + up[:1] + up[2:]), ("step", 3))
        self.exact(ladder_error(3, some, up[:2] + up[:1] + up[1:]), None)
        self.exact(ladder_error(3, some, up + up[2:3] + up[3:]), None)
        self.exact(ladder_error(3, some, (up[0], (2, 1, 0), (2, 0, 1), (0, 2, 1))), None)

    def test_as_many_rungs_as_a_ladder_has_at_most(self):
        here, there = (0, 1), (1, 0)
        for many in range(1, 80):
            value = (here, there) * (many // 2) + (here,) * (many % 2)
            wanted = "form" if many > 67 else None
            self.exact(ladder_error(2, (0, (), ()), value), wanted)
        # From an odd number of rungs on it leads from the least cost to the greatest.
        sums = (0, (0,), (0,))
        self.exact(ladder_error(2, sums, (here, there) * 33), None)
        self.exact(ladder_error(2, sums, (here, there) * 34), "form")
        self.exact(ladder_error(2, sums, (here, there) * 33 + (here,)), "greatest")
        self.exact(ladder_error(2, sums, (there, here) * 33 + (there,)), "least")
        self.exact(ladder_error(1, (0, (0,), (0,)), ((0,),)), None)
        self.exact(ladder_error(1, (0, (0,), (0,)), ((0,), (0,))), ("step", 1))

    def test_ladders_with_parts_changed(self):
        chance = random.Random(202)
        for given, papers in (
            ((3, (1, (1, 2), (2, 1))), [((1, 2, 0), (1, 0, 2), (0, 1, 2), (0, 2, 1))]),
            ((2, (0, (0,), (0,))), [((0, 1), (1, 0))]),
            ((4, (0, (), ())), [((2, 0, 1, 3),), ((0, 1, 2, 3), (0, 2, 1, 3))]),
        ):
            told = self.wrong(ladder_error, ladder_fault, given, papers)
            self.assertLessEqual({None, "form", ("order", 0)}, told)
            self.doubly_wrong(ladder_error, ladder_fault, given, papers, chance)
            self.strange(ladder_error, ladder_fault, given, ((0, 1, 2), (0, 1)))

    def test_what_is_wrong_first(self):
        some = (1, (1, 2), (2, 1))
        self.exact(ladder_error(3, some, ((0, 1, 2), (0, 1, 2), (0, 1))), ("order", 2))
        self.exact(ladder_error(3, some, ((0, 1, 2), (0, 1, True))), ("order", 1))
        self.exact(ladder_error(3, some, ((0, 1, 2), (2, 1, 0))), ("step", 1))
        self.exact(ladder_error(3, some, ((0, 1, 2), (1, 2, 0))), ("step", 1))
        self.exact(ladder_error(3, some, ((0, 1, 2), (1, 0, 2))), "least")
        self.exact(ladder_error(3, some, ((1, 2, 0),)), "greatest")
        self.exact(ladder_error(3, some, [(1, 2, 0)]), "form")

    def test_by_name_and_nothing_is_changed(self):
        rungs = ladder(n=2, sums=(0, (0,), (0,)))
        self.exact(ladder_error(n=2, sums=(0, (0,), (0,)), value=rungs), None)
        self.keeps(ladder, 3, (1, (1, 2), (2, 1)))
        self.keeps(ladder_error, 3, (1, (1, 2), (2, 1)), ([0, 1, 2], [[]]))
