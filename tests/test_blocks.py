"""Walls and blocks."""

from forwardlists.blocks import blocks, is_forward, is_front, walls
from tests.cases import Case, rules_up_to, some_rules

RULES = rules_up_to(6) + some_rules(500, 14)


def is_wall_at(rule, place):
    """Whether no place from this one on is led to a place ahead of it."""
    for further in range(place, len(rule)):
        if rule[further] < place:
            return False
    return True


def block_with(rule, place):
    """The block in which a place lies, found by going from it to both sides."""
    begin, end = place, place + 1
    while not is_wall_at(rule, begin):
        begin -= 1
    while end < len(rule) and not is_wall_at(rule, end):
        end += 1
    return (begin, end)


def further_places(rule):
    """The pairs (place, first place of its block), of all places but these first ones."""
    pairs = [(place, block_with(rule, place)[0]) for place in range(len(rule))]
    return [(place, begin) for place, begin in pairs if place != begin]


class Examples(Case):
    def test_examples(self):
        self.holds("""
            >>> from forwardlists.blocks import blocks, is_forward, is_front, walls
            >>> walls((0, 0, 1, 1)), walls((0, 1, 0, 3, 3)), walls((0, 1, 1)), walls((0, 1, 2)), walls((0,))
            ((0,), (0, 3), (0, 1), (0, 1, 2), (0,))
            >>> blocks((0, 1, 0, 3, 3)), blocks((0, 1, 1)), blocks((0, 0, 2, 0))
            (((0, 3), (3, 5)), ((0, 1), (1, 3)), ((0, 4),))
            >>> [(is_forward(rule), is_front(rule)) for rule in ((0, 0, 1, 1), (0, 0, 0), (0, 1, 1), (0, 1, 0, 3, 3), (0, 1, 2), (0, 1, 2, 3, 3, 4))]
            [(True, False), (True, True), (True, True), (False, False), (True, True), (True, False)]
        """)


class Blocks(Case):
    def test_walls(self):
        for rule in RULES:
            self.exact(walls(rule), tuple(place for place in range(len(rule)) if is_wall_at(rule, place)))

    def test_blocks(self):
        for rule in RULES:
            self.exact(blocks(rule), tuple(sorted({block_with(rule, place) for place in range(len(rule))})))

    def test_blocks_follow_one_another_and_begin_with_a_place_that_stays(self):
        for rule in RULES:
            ends = [0] + [end for _, end in blocks(rule)]
            self.assertEqual([begin for begin, _ in blocks(rule)], ends[:-1])
            self.assertEqual(ends[-1], len(rule))
            self.assertTrue(all(rule[begin] == begin for begin, _ in blocks(rule)))

    def test_is_forward(self):
        for rule in RULES:
            self.exact(is_forward(rule), all(rule[place] < place for place, _ in further_places(rule)))

    def test_is_front(self):
        for rule in RULES:
            self.exact(is_front(rule), all(rule[place] == begin for place, begin in further_places(rule)))

    def test_rules_of_twelve_places(self):
        self.exact(walls((0,) * 12), (0,))
        self.exact(blocks((0,) * 12), ((0, 12),))
        self.exact(walls(tuple(range(12))), tuple(range(12)))
        self.exact(walls((0,) + tuple(range(11))), (0,))
        self.exact(is_forward((0,) + tuple(range(11))), True)
        self.exact(is_front((0,) + tuple(range(11))), False)
        self.exact(blocks((0,) * 6 + (6,) * 6), ((0, 6), (6, 12)))
        self.exact(is_front((0,) * 6 + (6,) * 6), True)

    def test_by_name(self):
        self.exact(walls(rule=(0, 1)), (0, 1))
        self.exact(blocks(rule=(0, 1)), ((0, 1), (1, 2)))
        self.exact(is_forward(rule=(0, 1, 0)), False)
        self.exact(is_front(rule=(0, 0)), True)
