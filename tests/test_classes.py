"""Classes: which orders come out of one another, beside a going through all asks."""

import functools
import itertools
import random
from math import factorial

from forwardlists.asking import run
from forwardlists.blocks import blocks, is_forward
from forwardlists.classes import class_size, comes_out, kind_of, least_order
from forwardlists.errors import TooMany
from tests.cases import Case, all_orders, all_rules, rules_up_to, some_order, some_rules, some_text

ODD = ((0, 1, 2, 0, 4, 1), (0, 1, 2, 0, 4, 2), (0, 1, 2, 3, 0, 2))


@functools.cache
def steps(n):
    """For each pair (place, goal): which order, by its number, each order becomes by such an ask."""
    orders = all_orders(n)
    numbers = {order: number for number, order in enumerate(orders)}
    found = {}
    for place in range(n):
        for goal in range(place):
            found[place, goal] = [
                numbers[order[:goal] + order[place:place + 1] + order[goal:place] + order[place + 1:]]
                for order in orders
            ]
    return found


def reached(rule, begin=0):
    """The numbers of all orders that come out of the one with the number begin."""
    moves = [steps(len(rule))[place, goal] for place, goal in enumerate(rule) if goal < place]
    seen = {begin}
    waiting = [begin]
    while waiting:
        now = waiting.pop()
        for move in moves:
            if move[now] not in seen:
                seen.add(move[now])
                waiting.append(move[now])
    return seen


def classes_of(rule):
    """For each order its class, by going through all asks."""
    orders = all_orders(len(rule))
    found = {}
    for number, order in enumerate(orders):
        if order not in found:
            whole = {orders[other] for other in reached(rule, number)}
            for other in whole:
                found[other] = whole
    return found


def parts_of(rule):
    """The rules of the single blocks of a rule, told from their first places on."""
    return [tuple(goal - begin for goal in rule[begin:end]) for begin, end in blocks(rule)]


def is_too_great(part):
    """Whether a block with this rule is of those of which nothing is told."""
    return len(part) > 7 and any(part[place] == place for place in range(1, len(part)))


def side_by_side(*parts):
    """The rule whose blocks are ordered by these rules."""
    rule = ()
    for part in parts:
        rule += tuple(len(rule) + goal for goal in part)
    return rule


@functools.cache
def comes_in_block(own, told):
    """Whether this order comes out of the ascending one by own, the rule of one block."""
    kind = kind_of(own, (0, len(own)))
    if kind == "all":
        return True
    if kind == "round":
        return told in [tuple((at + letter) % len(own) for letter in range(len(own))) for at in range(len(own))]
    if kind == "even":
        return sum(1 for one, other in itertools.combinations(told, 2) if one > other) % 2 == 0
    return all_orders(len(own)).index(told) in reached(own)


def comes_by_blocks(rule, one, other):
    """Whether other comes out of one, each block being looked at as a list by itself."""
    for (begin, end), own in zip(blocks(rule), parts_of(rule)):
        here, there = one[begin:end], other[begin:end]
        if sorted(here) != sorted(there):
            return False
        if not comes_in_block(own, tuple(here.index(letter) for letter in there)):
            return False
    return True


class Examples(Case):
    def test_examples(self):
        self.holds("""
            >>> from forwardlists.blocks import blocks, is_forward, is_front, walls
            >>> from forwardlists.classes import class_size, comes_out, kind_of, least_order
            >>> mixed, even, odd = (0, 1, 0, 3, 3), (0, 1, 0, 1, 2), (0, 1, 2, 0, 4, 1)
            >>> [kind_of(rule, blocks(rule)[0]) for rule in (mixed, even, odd, (0, 0, 2, 0), (0, 0), (0, 1, 1), (0, 1, 2, 0))]
            ['round', 'even', 'odd', 'all', 'all', 'one', 'round']
            >>> [class_size(rule) for rule in (mixed, even, odd, (0, 0, 2, 0), (0, 1, 1), (0, 1, 2), (0,) * 12)]
            [6, 60, 120, 24, 2, 1, 479001600]
            >>> [comes_out(mixed, (0, 1, 2, 3, 4), other) for other in ((2, 0, 1, 4, 3), (1, 0, 2, 3, 4), (0, 1, 3, 2, 4), (0, 1, 2, 3, 4))]
            [True, False, False, True]
            >>> comes_out(even, (0, 1, 2, 3, 4), (4, 2, 0, 3, 1)), least_order(even, (4, 2, 0, 3, 1)), least_order(mixed, (1, 0, 2, 4, 3))
            (False, (0, 1, 2, 4, 3), (0, 2, 1, 3, 4))
            >>> comes_out(odd, (0, 1, 2, 3, 4, 5), (3, 0, 1, 2, 4, 5)), comes_out(odd, (0, 1, 2, 3, 4, 5), (1, 0, 2, 3, 4, 5)), least_order(odd, (1, 0, 2, 3, 4, 5))
            (True, False, (0, 1, 2, 4, 3, 5))
            >>> class_size((0, 1) + (0,) * 6)
            raises TooMany(7)
        """)


class Kinds(Case):
    def test_each_word(self):
        told = {
            (0,): "one", (0, 0): "all", (0, 0, 0): "all", (0, 1, 0): "round", (0, 1, 2, 0): "round",
            (0, 1, 2, 3, 4, 5, 0): "round", (0, 1, 0, 1): "even", (0, 1, 0, 1, 2): "even", (0, 1, 0, 1, 0): "even",
            (0, 0, 2, 0): "all", (0, 1, 0, 0): "all", (0, 1, 2, 0, 0): "all", (0, 1, 2, 3, 0, 1): "even",
            (0, 1, 2, 0, 4, 0): "all", (0, 1, 2, 0, 4, 3): "all", (0, 1, 2, 0, 3, 1): "all",
        }
        for own, kind in told.items():
            self.exact(kind_of(own, (0, len(own))), kind)

    def test_the_three_odd_rules(self):
        for own in ODD:
            self.exact(kind_of(own, (0, 6)), "odd")
            self.exact(kind_of(side_by_side((0, 0), own, (0,)), (2, 8)), "odd")
            self.exact(class_size(own), 120)
        odd = [rule for rule in all_rules(6) if blocks(rule) == ((0, 6),) and kind_of(rule, (0, 6)) == "odd"]
        self.assertEqual(sorted(odd), sorted(ODD))

    def test_all_blocks_of_all_rules_of_few_places(self):
        for rule in rules_up_to(6):
            for block, own in zip(blocks(rule), parts_of(rule)):
                self.exact(kind_of(rule, block), self.told(own))

    def told(self, own):
        ahead = [place for place, goal in enumerate(own) if goal < place]
        if len(own) == 1:
            return "one"
        if len(own) > 2 and len(ahead) == 1:
            return "round"
        if own in ODD:
            return "odd"
        return "all" if any((place - own[place]) % 2 for place in ahead) else "even"

    def test_a_block_is_told_from_its_own_first_place_on(self):
        rule = side_by_side((0, 0), (0, 1, 0), (0,), (0, 1, 0, 1))
        self.exact([kind_of(rule, block) for block in blocks(rule)], ["all", "round", "one", "even"])

    def test_by_name(self):
        self.exact(kind_of(rule=(0, 0), block=(0, 2)), "all")


class BesideAllAsks(Case):
    def test_class_size_for_all_rules_of_up_to_seven_places(self):
        many = 0
        for rule in rules_up_to(7):
            self.exact(class_size(rule), len(reached(rule)))
            many += 1
        self.assertEqual(many, 5913)

    def test_least_order_for_all_rules_of_up_to_five_places(self):
        for rule in rules_up_to(5):
            for order, whole in classes_of(rule).items():
                self.exact(least_order(rule, order), min(whole))

    def test_comes_out_for_all_rules_of_up_to_four_places(self):
        for rule in rules_up_to(4):
            for one, whole in classes_of(rule).items():
                for other in all_orders(len(rule)):
                    self.exact(comes_out(rule, one, other), other in whole)

    def test_comes_out_for_all_rules_of_five_places(self):
        chance = random.Random(19)
        for rule in all_rules(5):
            found = classes_of(rule)
            one = some_order(chance, 5)
            for other in all_orders(5):
                self.exact(comes_out(rule, one, other), other in found[one])

    def test_the_odd_rules(self):
        for rule in ODD:
            found = classes_of(rule)
            self.assertEqual({len(whole) for whole in found.values()}, {120})
            for order, whole in found.items():
                self.exact(least_order(rule, order), min(whole))
            for other in all_orders(6):
                self.exact(comes_out(rule, (5, 3, 0, 1, 4, 2), other), other in found[5, 3, 0, 1, 4, 2])

    def test_no_two_orders_of_an_odd_class_are_unlike_in_just_two_places(self):
        for rule in ODD:
            for one, other in itertools.combinations(range(6), 2):
                letters = list(range(6))
                letters[one], letters[other] = other, one
                self.exact(comes_out(rule, tuple(range(6)), tuple(letters)), False)


class WhatHolds(Case):
    def small(self):
        """Rules of up to twelve places of which all is told."""
        rules = some_rules(300, 20) + [side_by_side(*ODD[:2]), side_by_side((0, 0), (0, 1, 0), ODD[2])]
        mixed = [(0,), (0, 0), (0, 1, 0), (0, 1, 2, 0), (0, 1, 0, 1), (0, 0, 1, 1), (0, 0, 2, 0)]
        rules += [side_by_side(*parts) for parts in itertools.product(mixed, repeat=3)]
        return [rule for rule in rules if not any(is_too_great(part) for part in parts_of(rule))]

    def test_orders_fall_into_classes_of_one_size(self):
        for rule in rules_up_to(5):
            least = {least_order(rule, order) for order in all_orders(len(rule))}
            self.assertEqual(len(least) * class_size(rule), factorial(len(rule)))

    def test_what_comes_by_asks_comes_out_and_back(self):
        chance = random.Random(21)
        for rule in self.small():
            one = some_order(chance, len(rule))
            other = run(rule, one, some_text(chance, len(rule), 40))
            self.exact(comes_out(rule, one, one), True)
            self.exact(comes_out(rule, one, other), True)
            self.exact(comes_out(rule, other, one), True)
            self.exact(least_order(rule, one), least_order(rule, other))

    def test_the_least_order_is_of_the_class_and_none_comes_ahead_of_it(self):
        chance = random.Random(22)
        for rule in self.small():
            one = some_order(chance, len(rule))
            least = least_order(rule, one)
            self.assertTrue(comes_out(rule, one, least))
            self.exact(least_order(rule, least), least)
            self.assertLessEqual(least, one)
            self.assertLessEqual(least, run(rule, one, some_text(chance, len(rule), 60)))

    def test_a_class_is_told_block_by_block(self):
        size = {"one": lambda k: 1, "round": lambda k: k, "odd": lambda k: 120,
                "even": lambda k: factorial(k) // 2, "all": factorial}
        chance = random.Random(23)
        for rule in self.small():
            wanted = 1
            for begin, end in blocks(rule):
                wanted *= size[kind_of(rule, (begin, end))](end - begin)
            self.exact(class_size(rule), wanted)
            one, other = some_order(chance, len(rule)), some_order(chance, len(rule))
            self.exact(comes_out(rule, one, other), comes_by_blocks(rule, one, other))

    def test_orders_with_the_same_letters_in_each_block(self):
        chance = random.Random(24)
        for rule in self.small():
            one, other = some_order(chance, len(rule)), ()
            for begin, end in blocks(rule):
                other += tuple(chance.sample(one[begin:end], end - begin))
            self.exact(comes_out(rule, one, other), comes_by_blocks(rule, one, other))

    def test_forward_rules_let_all_orders_of_each_block_come(self):
        chance = random.Random(25)
        for rule in self.small():
            if is_forward(rule):
                self.assertLessEqual({kind_of(rule, block) for block in blocks(rule)}, {"one", "all"})
                one = some_order(chance, len(rule))
                wanted = sum((tuple(sorted(one[begin:end])) for begin, end in blocks(rule)), ())
                self.exact(least_order(rule, one), wanted)

    def test_letters_stay_in_their_block(self):
        rule, one = (0, 0, 2, 2), (0, 1, 2, 3)
        self.exact([comes_out(rule, one, other) for other in ((1, 0, 3, 2), (0, 2, 1, 3), (2, 3, 0, 1))], [True, False, False])
        self.exact(least_order(rule, (3, 1, 2, 0)), (1, 3, 0, 2))

    def test_by_name(self):
        self.exact(class_size(rule=(0, 0)), 2)
        self.exact(comes_out(rule=(0, 1), one=(0, 1), other=(1, 0)), False)
        self.exact(least_order(rule=(0, 0), order=(1, 0)), (0, 1))


class TooManyStaying(Case):
    GREAT = (
        (0, 1) + (0,) * 6, (0, 1, 2, 3, 4, 5, 6, 0), (0, 1, 0, 1, 2, 3, 4, 5), (0,) * 6 + (6, 0),
        (0, 0, 0, 3, 0, 0, 0, 0, 0, 0, 0, 0), (0, 1) + (0,) * 10, tuple(range(11)) + (0,),
    )

    def raise_all(self, rule, order):
        for call, given in ((class_size, ()), (comes_out, (order, order)), (least_order, (order,))):
            self.raises(TooMany(7), call, rule, *given)

    def test_great_blocks_with_a_place_that_stays(self):
        for rule in self.GREAT:
            self.raise_all(rule, tuple(range(len(rule))))
            self.raises(TooMany(7), kind_of, rule, (0, len(rule)))

    def test_the_great_block_need_not_be_the_first_one(self):
        for ahead in ((0,), (0, 0), (0, 1, 0), (0, 0, 2)):
            for behind in ((), (0,)):
                rule = side_by_side(ahead, self.GREAT[0], behind)
                self.raise_all(rule, tuple(range(len(rule))))
                for block in blocks(rule):
                    if block[1] - block[0] > 7:
                        self.raises(TooMany(7), kind_of, rule, block)
                    else:
                        self.assertIn(kind_of(rule, block), ("one", "all", "round"))

    def test_orders_of_unlike_letters_in_a_block_are_no_way_out(self):
        rule = side_by_side((0, 0), self.GREAT[0])
        self.raises(TooMany(7), comes_out, rule, tuple(range(10)), tuple(range(9, -1, -1)))

    def test_seven_places_are_not_too_many(self):
        for rule in ((0, 1) + (0,) * 5, (0, 1, 2, 3, 4, 5, 0), (0, 1, 0, 1, 2, 3, 4)):
            kind_of(rule, (0, 7))
            class_size(rule)
            self.exact(comes_out(rule, tuple(range(7)), tuple(range(7))), True)
            self.exact(least_order(rule, tuple(range(7))), tuple(range(7)))

    def test_great_blocks_all_of_which_is_led_ahead(self):
        chance = random.Random(26)
        for n in range(8, 13):
            for rule in ((0,) * n, (0,) + tuple(range(n - 1)), (0, 0) + tuple(range(n - 2)), (0,) * (n - 1) + (n - 2,)):
                self.exact(kind_of(rule, (0, n)), "all")
                self.exact(class_size(rule), factorial(n))
                one, other = some_order(chance, n), some_order(chance, n)
                self.exact(comes_out(rule, one, other), True)
                self.exact(least_order(rule, one), tuple(range(n)))

    def test_great_rules_of_small_blocks(self):
        self.exact(class_size(tuple(range(12))), 1)
        self.exact(class_size(side_by_side((0, 1, 0), (0, 1, 0), (0, 1, 0), (0, 1, 0))), 81)
        self.exact(class_size(side_by_side((0,) * 8, (0, 1, 0, 1))), factorial(8) * 12)

    def test_just_where_some_block_is_too_great(self):
        raised = 0
        for rule in some_rules(300, 27, 8, 12) + [tuple(sorted(rule)) for rule in some_rules(300, 28, 8, 12)]:
            if any(is_too_great(part) for part in parts_of(rule)):
                self.raise_all(rule, tuple(range(len(rule))))
                raised += 1
            else:
                self.assertGreater(class_size(rule), 0)
        self.assertGreater(raised, 50)
