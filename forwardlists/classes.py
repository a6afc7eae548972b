"""Which orders come out of one another by asking, and how many."""

from math import factorial

from forwardlists.asking import asked
from forwardlists.blocks import blocks, own_rule
from forwardlists.bounds import MAX_STAYING
from forwardlists.errors import TooMany

# By these 120 of the 720 orders come, though no count of exchanges tells which.
ODD_RULES = ((0, 1, 2, 0, 4, 1), (0, 1, 2, 0, 4, 2), (0, 1, 2, 3, 0, 2))
ODD_SIZE = 120


def _check_staying(own):
    """Raise TooMany if own, the rule of one block, is of those of which nothing is told."""
    stays = [place for place in range(1, len(own)) if own[place] == place]
    if len(own) > MAX_STAYING and len(stays) > 0:
        raise TooMany(MAX_STAYING)


def kind_of(rule, block):
    """Return the word for the orders that come in block, one of blocks(rule)."""
    own = own_rule(rule, block)
    _check_staying(own)
    steps = [place - own[place] for place in range(len(own)) if own[place] < place]
    if len(own) == 1:
        return "one"
    if len(own) >= 3 and len(steps) == 1:
        return "round"
    if own in ODD_RULES:
        return "odd"
    if all([step % 2 == 0 for step in steps]):
        return "even"
    return "all"


def _part_size(kind, many):
    """Return how many orders come in a block of many places of this kind."""
    if kind == "one":
        return 1
    if kind == "round":
        return many
    if kind == "odd":
        return ODD_SIZE
    if kind == "even":
        return factorial(many) // 2
    return factorial(many)


def class_size(rule):
    """Return how many orders come out of any one by rule."""
    size = 1
    for begin, end in blocks(rule):
        size = size * _part_size(kind_of(rule, (begin, end)), end - begin)
    return size


def all_behind(own, part):
    """Return all orders of a block that come out of part by own, its rule, by going through all asks."""
    found = [part]
    known = {part: True}
    done = 0
    while done < len(found):
        for letter in part:
            behind = asked(own, found[done], letter)
            if behind not in known:
                known[behind] = True
                found.append(behind)
        done += 1
    return found


def _is_even(part):
    """Return whether an even number of exchanges of neighbours makes part ascend."""
    turned = 0
    for place, letter in enumerate(part):
        turned += len([other for other in part[:place] if other > letter])
    return turned % 2 == 0


def _least_part(kind, own, part):
    """Return the least order that comes out of part in a block of this kind."""
    if kind == "round":
        at = part.index(min(part))
        return part[at:] + part[:at]
    if kind == "odd":
        return min(all_behind(own, part))
    least = tuple(sorted(part))
    if kind == "even" and not _is_even(part):
        return least[:-2] + (least[-1], least[-2])
    return least


def least_order(rule, order):
    """Return the least order that comes out of order."""
    least = ()
    for begin, end in blocks(rule):
        kind = kind_of(rule, (begin, end))
        own = own_rule(rule, (begin, end))
        least = least + _least_part(kind, own, order[begin:end])
    return least


def comes_out(rule, one, other):
    """Return whether other comes out of one."""
    # Two orders are of one class exactly if its least order is the same.
    return least_order(rule, one) == least_order(rule, other)
