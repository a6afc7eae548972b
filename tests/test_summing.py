"""Summaries: what texts cost from every order, told without running them."""

import itertools
import random

from forwardlists.asking import run
from forwardlists.coding import cost
from forwardlists.errors import Unfit
from forwardlists.rules import front
from forwardlists.summing import behind, cost_from, joined, least_from, least_turns, most_from, order_with, summary
from forwardlists.summing import summary_error, whole
from tests.cases import Case, all_orders, any_values, some_order, some_text
from tests.sums import all_rows, fewest_turns, short_texts, some_sums, summed, text_with

NOTHING = (0, (), ())


def few_letters():
    """All texts of at most five letters, of one to three: pairs (n, text)."""
    return [(n, text) for n in (1, 2, 3) for text in short_texts(n, 5)]


def fault(n, value):
    """What is wrong with value as a summary of a text of n letters, by the words of the document."""
    if type(value) is not tuple or len(value) != 3:
        return "form"
    turns, firsts, lasts = value
    if type(turns) is not int or turns < 0 or type(firsts) is not tuple or type(lasts) is not tuple:
        return "form"
    for place, item in enumerate(firsts):
        if type(item) is not int or item not in range(n) or item in firsts[:place]:
            return ("firsts", place)
    if any(type(item) is not int for item in lasts) or sorted(lasts) != sorted(firsts):
        return "lasts"
    least = fewest_turns(firsts, lasts)
    if turns < least or (turns - least) % 2 or (len(firsts) < 2 and turns > 0):
        return "turns"
    return None


class Examples(Case):
    def test_examples(self):
        self.holds("""
            >>> from forwardlists.summing import behind, cost_from, joined, least_from, least_turns, most_from, order_with, summary, summary_error, whole
            >>> summary(3, (1, 2, 1)), summary(3, ()), summary(3, (0, 0, 0)), summary(4, (3, 1, 0, 3, 1))
            ((1, (1, 2), (2, 1)), (0, (), ()), (0, (0,), (0,)), (4, (3, 1, 0), (0, 3, 1)))
            >>> joined(summary(4, (3, 1)), summary(4, (0, 3, 1))) == summary(4, (3, 1, 0, 3, 1)), joined(summary(3, (1, 2)), summary(3, (1,)))
            (True, (1, (1, 2), (2, 1)))
            >>> least_turns((1, 2), (2, 1)), least_turns((0, 1, 2), (0, 1, 2)), least_turns((0, 1, 2), (2, 0, 1)), least_turns((0, 1, 2), (1, 0, 2)), least_turns((), ())
            (1, 0, 4, 1, 0)
            >>> [summary_error(3, value) for value in ((1, (1, 2), (2, 1)), (0, (), ()), (4, (0, 1, 2), (2, 0, 1)), (6, (0, 1, 2), (2, 0, 1)), [0, (), ()], (-1, (), ()), (0, (1, 3), ()), (0, (1, 1), (1,)), (0, (1, 2), (1,)), (2, (0, 1, 2), (2, 0, 1)), (5, (0, 1, 2), (2, 0, 1)), (2, (0,), (0,)))]
            [None, None, None, None, 'form', 'form', ('firsts', 1), ('firsts', 1), 'lasts', 'turns', 'turns', 'turns']
            >>> some = summary(3, (1, 2, 1))
            >>> [cost_from(some, order) for order in ((0, 1, 2), (1, 2, 0), (0, 2, 1), (2, 1, 0))], [behind(some, order) for order in ((0, 1, 2), (2, 1, 0))]
            ([4, 2, 5, 3], [(1, 2, 0), (1, 2, 0)])
            >>> cost_from(summary(4, (3, 1, 0, 3, 1)), (0, 1, 2, 3)), behind(summary(4, (3,)), (0, 1, 2, 3)), cost_from((0, (), ()), (0,)), behind((0, (), ()), (1, 0))
            (11, (3, 0, 1, 2), 0, (1, 0))
            >>> least_from(3, some), most_from(3, some), [cost_from(some, order_with(3, some, number)) for number in (2, 3, 4, 5)]
            (2, 5, [2, 3, 4, 5])
            >>> least_from(12, (0, (), ())), most_from(12, summary(12, (7,))), order_with(12, summary(12, (7,)), 11)[-1]
            (0, 11, 7)
            >>> order_with(3, some, 6)
            raises Unfit()
            >>> order_with(3, some, True)
            raises Unfit()
            >>> whole(3, some), whole(4, summary(4, (1, 2, 1))), whole(1, (0, (), ())), whole(2, summary(2, (1, 1)))
            ((-1, (1, 2, 0), (0, 2, 1)), (1, (1, 2), (2, 1)), (0, (0,), (0,)), (-1, (1, 0), (0, 1)))
        """)


class Summary(Case):
    def test_all_texts_of_few_letters(self):
        for n, text in few_letters():
            self.exact(summary(n, text), summed(text))
            self.exact(summary_error(n, summary(n, text)), None)

    def test_longer_texts(self):
        chance = random.Random(101)
        for n in range(1, 13):
            for length in (0, 1, 2, 5, 12, 30, 100, 400):
                text = some_text(chance, n, length)
                self.exact(summary(n, text), summed(text))
                self.exact(summary_error(n, summary(n, text)), None)

    def test_by_name_and_nothing_is_changed(self):
        self.exact(summary(n=2, text=(0, 1, 0)), (1, (0, 1), (1, 0)))
        self.keeps(summary, 2, (0, 1, 0))


class Joined(Case):
    def test_all_texts_of_few_letters_cut_everywhere(self):
        for n, text in few_letters():
            for at in range(len(text) + 1):
                self.exact(joined(summary(n, text[:at]), summary(n, text[at:])), summed(text))

    def test_all_pairs_of_short_texts(self):
        for n in (1, 2, 3, 4):
            sums = {text: summary(n, text) for text in short_texts(n, 3)}
            for one, other in itertools.product(sums, repeat=2):
                self.exact(joined(sums[one], sums[other]), summed(one + other))

    def test_longer_texts(self):
        chance = random.Random(102)
        for _ in range(200):
            n = chance.randint(1, 12)
            one, other = some_text(chance, n, chance.randint(0, 40)), some_text(chance, n, chance.randint(0, 40))
            self.exact(joined(summary(n, one), summary(n, other)), summed(one + other))

    def test_three_texts_in_any_order_of_joining_and_nothing_on_either_side(self):
        chance = random.Random(103)
        for _ in range(400):
            n = chance.randint(1, 12)
            one, other, third = some_sums(chance, n), some_sums(chance, n), some_sums(chance, n)
            self.exact(joined(joined(one, other), third), joined(one, joined(other, third)))
            self.exact((joined(NOTHING, one), joined(one, NOTHING)), (one, one))
            self.exact(summary_error(n, joined(one, other)), None)

    def test_texts_of_any_length(self):
        great = (10 ** 399, (0, 1), (0, 1))
        self.exact(joined(great, great), (2 * 10 ** 399 + 2, (0, 1), (0, 1)))

    def test_by_name_and_nothing_is_changed(self):
        self.exact(joined(one=(0, (1,), (1,)), other=(0, (0,), (0,))), (0, (1, 0), (1, 0)))
        self.keeps(joined, (1, (1, 2), (2, 1)), (0, (1,), (1,)))


class LeastTurns(Case):
    def test_the_words_of_the_document(self):
        for n in range(1, 5):
            for firsts, lasts in all_rows(n):
                self.exact(least_turns(firsts, lasts), fewest_turns(firsts, lasts))
        chance = random.Random(104)
        for n in range(5, 13):
            for _ in range(60):
                firsts = some_order(chance, n)
                lasts = some_order(chance, n)
                self.exact(least_turns(firsts, lasts), fewest_turns(firsts, lasts))

    def test_no_text_has_fewer(self):
        for n, most in ((2, 7), (3, 7), (4, 6)):
            fewest = {}
            for text in short_texts(n, most):
                turns, firsts, lasts = summed(text)
                fewest[firsts, lasts] = min(turns, fewest.get((firsts, lasts), turns))
            for (firsts, lasts), turns in fewest.items():
                # A text that lacks a letter need not be the one with the fewest turns, unless texts are long enough.
                self.assertLessEqual(least_turns(firsts, lasts), turns)
            if n < 4:
                self.assertEqual(fewest, {rows: least_turns(*rows) for rows in all_rows(n)})

    def test_by_name(self):
        self.exact(least_turns(firsts=(0, 1), lasts=(1, 0)), 1)


class TextWith(Case):
    """A text with a given summary: so what summary_error lets is the summary of some text."""

    def test_the_summaries_of_all_texts_of_few_letters(self):
        for n, text in few_letters():
            sums = summary(n, text)
            other = text_with(sums)
            self.exact(summary(n, other), sums)
            for order in all_orders(n):
                self.exact(cost(front(n), order, other), cost(front(n), order, text))
                self.exact(run(front(n), order, other), run(front(n), order, text))
            for at in range(len(text) + 1):
                parts = text_with(summary(n, text[:at])) + text_with(summary(n, text[at:]))
                self.exact(summary(n, parts), sums)

    def test_all_that_summary_error_lets(self):
        for n in (1, 2, 3, 4):
            for firsts, lasts in all_rows(n):
                for turns in range(16):
                    sums = (turns, firsts, lasts)
                    if summary_error(n, sums) is None:
                        self.exact(summary(n, text_with(sums)), sums)

    def test_up_to_twelve_letters(self):
        chance = random.Random(105)
        for _ in range(300):
            n = chance.randint(1, 12)
            sums = some_sums(chance, n)
            self.exact(summary_error(n, sums), None)
            self.exact(summary(n, text_with(sums)), sums)


class SummaryError(Case):
    def test_it_lets_just_the_summaries_of_all_texts(self):
        for n, most in ((1, 4), (2, 8), (3, 7), (4, 5)):
            # A letter asked twice running changes nothing; without such each ask but the first ones has a turn.
            texts = [()] + [(letter,) for letter in range(n)]
            level = texts[1:]
            for _ in range(n + most - 1):
                level = [text + (letter,) for text in level for letter in range(n) if letter != text[-1]]
                level = [text for text in level if summed(text)[0] <= most]
                texts.extend(level)
            some = {summed(text) for text in texts}
            for firsts, lasts in all_rows(n):
                for turns in range(most + 1):
                    wanted = None if (turns, firsts, lasts) in some else "turns"
                    self.exact(summary_error(n, (turns, firsts, lasts)), wanted)

    def test_any_value(self):
        for n in range(1, 13):
            for value in any_values():
                self.exact(summary_error(n, value), fault(n, value))
                self.keeps(summary_error, n, value)

    def test_any_value_as_a_part(self):
        for right in (NOTHING, (0, (1,), (1,)), (1, (1, 2), (2, 1)), (4, (0, 1, 2), (2, 0, 1)), (6, (3, 0), (3, 0))):
            self.exact(summary_error(4, right), None)
            for other in any_values():
                for at in range(3):
                    value = right[:at] + (other,) + right[at + 1:]
                    self.exact(summary_error(4, value), fault(4, value))
                    self.keeps(summary_error, 4, value)

    def test_any_value_as_a_letter(self):
        for other in any_values():
            for value in (
                (0, (other,), (other,)), (0, (0,), (other,)), (0, (other,), (0,)), (1, (0, other), (other, 0)),
                (0, (0, 1), (0, other)), (0, (other, 1), (0, 1)), (other, (0, 1), (0, 1)), (0, (0, 1, other), (0, 1)),
            ):
                self.exact(summary_error(3, value), fault(3, value))
                self.keeps(summary_error, 3, value)

    def test_one_part_changed(self):
        chance = random.Random(106)
        told = {}
        for _ in range(600):
            n = chance.randint(1, 12)
            turns, firsts, lasts = some_sums(chance, n)
            at = chance.randint(0, len(firsts))
            letter = chance.randint(-1, n)
            for value in (
                (turns + 1, firsts, lasts), (turns - 1, firsts, lasts), (turns + 2, firsts, lasts),
                (turns - 2, firsts, lasts), (turns % 2, firsts, lasts), (turns, firsts[::-1], lasts),
                (turns, firsts, lasts[::-1]), (turns, lasts, firsts), (turns, firsts[:at] + (letter,) + firsts[at:], lasts),
                (turns, firsts, lasts[:at] + (letter,) + lasts[at:]), (turns, firsts[:at], lasts), (turns, firsts, lasts[:at]),
                (turns, firsts[:at] + (letter,) + firsts[at + 1:], lasts), (turns, firsts[:at] + firsts[at + 1:], lasts),
                (turns, firsts, lasts[:at] + (letter,) + lasts[at + 1:]), (turns, list(firsts), lasts),
                (turns, firsts, list(lasts)), [turns, firsts, lasts], (turns, firsts), (turns, firsts, lasts, ()),
                (firsts, turns, lasts), (str(turns), firsts, lasts), (turns == 1, firsts, lasts),
            ):
                wanted = fault(n, value)
                told[wanted if type(wanted) is not tuple else wanted[0]] = True
                self.exact(summary_error(n, value), wanted)
        self.assertEqual(set(told), {None, "form", "firsts", "lasts", "turns"})

    def test_what_is_told_first(self):
        self.exact(summary_error(2, (-1, (2,), ())), "form")
        self.exact(summary_error(2, (0, (2,), [])), "form")
        self.exact(summary_error(2, (0, (0, 2, 0), ())), ("firsts", 1))
        self.exact(summary_error(2, (0, (0, 0, 2), ())), ("firsts", 1))
        self.exact(summary_error(2, (1, (0,), (1,))), "lasts")
        self.exact(summary_error(2, (0, (0, 1), (1, 1))), "lasts")
        self.exact(summary_error(2, (0, (0, 1), (1, 0))), "turns")

    def test_texts_of_any_length(self):
        self.exact(summary_error(2, (10 ** 399, (0, 1), (0, 1))), None)
        self.exact(summary_error(2, (10 ** 399 + 1, (0, 1), (0, 1))), "turns")
        self.exact(summary_error(2, (10 ** 399 + 1, (0, 1), (1, 0))), None)
        self.exact(summary_error(2, (10 ** 399, (0,), (0,))), "turns")
        self.exact(summary_error(2, (-(10 ** 399), (0, 1), (0, 1))), "form")

    def test_bounds_of_the_letters(self):
        for n in range(1, 13):
            self.exact(summary_error(n, (0, (n - 1,), (n - 1,))), None)
            self.exact(summary_error(n, (0, (n,), (n,))), ("firsts", 0))
            self.exact(summary_error(n, (0, (-1,), (-1,))), ("firsts", 0))
            self.exact(summary_error(n, (0, tuple(range(n)), tuple(range(n)))), None)

    def test_by_name(self):
        self.exact(summary_error(n=1, value=(0, (0,), (0,))), None)


class CostFrom(Case):
    def test_all_texts_of_few_letters_from_all_orders(self):
        for n, text in few_letters():
            sums = summary(n, text)
            for order in all_orders(n):
                self.exact(cost_from(sums, order), cost(front(n), order, text))
                self.exact(behind(sums, order), run(front(n), order, text))

    def test_longer_texts(self):
        chance = random.Random(107)
        for n in range(1, 13):
            for length in (0, 1, 3, 12, 40, 400):
                text, order = some_text(chance, n, length), some_order(chance, n)
                self.exact(cost_from(summary(n, text), order), cost(front(n), order, text))
                self.exact(behind(summary(n, text), order), run(front(n), order, text))

    def test_texts_of_any_length(self):
        great = (10 ** 399, (0, 1), (0, 1))
        self.exact(cost_from(great, (1, 0)), 10 ** 399 + 2)
        self.exact(behind(great, (0, 2, 1)), (1, 0, 2))

    def test_by_name_and_nothing_is_changed(self):
        self.exact(cost_from(sums=(1, (1, 2), (2, 1)), order=(0, 1, 2)), 4)
        self.exact(behind(sums=(1, (1, 2), (2, 1)), order=(0, 1, 2)), (1, 2, 0))
        self.keeps(cost_from, (1, (1, 2), (2, 1)), (0, 1, 2))
        self.keeps(behind, (1, (1, 2), (2, 1)), (0, 1, 2))


class Span(Case):
    def check(self, n, sums):
        costs = [cost_from(sums, order) for order in all_orders(n)]
        least, most = min(costs), max(costs)
        self.exact((least_from(n, sums), most_from(n, sums)), (least, most))
        self.assertEqual(set(costs), set(range(least, most + 1)))
        for number in range(least - 3, most + 4):
            if number not in costs:
                self.raises(Unfit(), order_with, n, sums, number)
                continue
            order = order_with(n, sums, number)
            self.assertIn(order, all_orders(n))
            self.exact(cost_from(sums, order), number)

    def test_all_firsts_of_one_to_four_letters_beside_all_orders(self):
        for n in range(1, 5):
            for firsts, lasts in all_rows(n):
                if lasts == firsts or lasts == firsts[::-1]:
                    self.check(n, (fewest_turns(firsts, lasts), firsts, lasts))

    def test_five_letters_beside_all_orders(self):
        chance = random.Random(108)
        for _ in range(40):
            self.check(5, some_sums(chance, 5))

    def test_texts_run_from_all_orders(self):
        chance = random.Random(109)
        for n in range(1, 6):
            text = some_text(chance, n, 14)
            costs = [cost(front(n), order, text) for order in all_orders(n)]
            sums = summary(n, text)
            self.exact((least_from(n, sums), most_from(n, sums)), (min(costs), max(costs)))

    def test_up_to_twelve_letters(self):
        chance = random.Random(110)
        for _ in range(60):
            n = chance.randint(6, 12)
            text = some_text(chance, n, chance.randint(0, 20))
            sums = summary(n, text)
            for number in range(least_from(n, sums), most_from(n, sums) + 1):
                order = order_with(n, sums, number)
                self.exact(sorted(order), list(range(n)))
                self.exact(cost(front(n), order, text), number)
            self.raises(Unfit(), order_with, n, sums, least_from(n, sums) - 1)
            self.raises(Unfit(), order_with, n, sums, most_from(n, sums) + 1)
            for _ in range(20):
                order = some_order(chance, n)
                self.assertIn(cost(front(n), order, text), range(least_from(n, sums), most_from(n, sums) + 1))

    def test_any_value_as_a_number(self):
        for n, sums in ((1, NOTHING), (3, (1, (1, 2), (2, 1))), (12, (0, (7,), (7,))), (2, (0, (0, 1), (0, 1)))):
            for number in any_values():
                if type(number) is int and least_from(n, sums) <= number <= most_from(n, sums):
                    self.exact(cost_from(sums, order_with(n, sums, number)), number)
                else:
                    self.raises(Unfit(), order_with, n, sums, number)
                self.keeps(order_with, n, sums, number)

    def test_true_is_no_number(self):
        self.exact(cost_from((0, (0,), (0,)), order_with(2, (0, (0,), (0,)), 1)), 1)
        self.raises(Unfit(), order_with, 2, (0, (0,), (0,)), True)
        self.raises(Unfit(), order_with, 2, NOTHING, False)

    def test_texts_of_any_length(self):
        great = (10 ** 399, (0, 1), (0, 1))
        self.exact((least_from(3, great), most_from(3, great)), (10 ** 399 + 1, 10 ** 399 + 4))
        self.exact(cost_from(great, order_with(3, great, 10 ** 399 + 3)), 10 ** 399 + 3)

    def test_by_name(self):
        some = (1, (1, 2), (2, 1))
        self.exact((least_from(n=3, sums=some), most_from(n=3, sums=some)), (2, 5))
        self.exact(cost_from(some, order_with(n=3, sums=some, number=4)), 4)


class Whole(Case):
    def test_all_firsts_and_lasts(self):
        for n in range(1, 5):
            for firsts, lasts in all_rows(n):
                for more in (0, 2):
                    turns = fewest_turns(firsts, lasts) + (more if len(firsts) > 1 else 0)
                    wanted = (turns, firsts, lasts)
                    if len(firsts) == n - 1:
                        left = (sum(range(n)) - sum(firsts),)
                        wanted = (turns - n + 1, firsts + left, left + lasts)
                    self.exact(whole(n, (turns, firsts, lasts)), wanted)
                    self.keeps(whole, n, (turns, firsts, lasts))

    def test_twelve_letters(self):
        firsts, lasts = tuple(range(11)), tuple(range(10, -1, -1))
        self.exact(whole(12, (55, firsts, lasts)), (44, firsts + (11,), (11,) + lasts))
        self.exact(whole(12, (66, tuple(range(12)), lasts)), (66, tuple(range(12)), lasts))
        self.exact(whole(12, (0, (3,), (3,))), (0, (3,), (3,)))

    def test_costs_and_what_is_behind_stay_the_same(self):
        for n, text in few_letters():
            sums = summary(n, text)
            for order in all_orders(n):
                self.exact(cost_from(whole(n, sums), order), cost_from(sums, order))
                self.exact(behind(whole(n, sums), order), behind(sums, order))

    def test_by_name(self):
        self.exact(whole(n=2, sums=(0, (1,), (1,))), (-1, (1, 0), (0, 1)))
