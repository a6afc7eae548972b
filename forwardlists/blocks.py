"""Walls, over which no letter is brought, and the blocks between them."""


def walls(rule):
    """Return the ascending tuple of all walls of rule."""
    return tuple([place for place in range(len(rule)) if min(rule[place:]) >= place])


def blocks(rule):
    """Return the ascending tuple of all blocks of rule, as pairs (begin, end)."""
    begins = walls(rule)
    ends = begins[1:] + (len(rule),)
    return tuple(zip(begins, ends))


def own_rule(rule, block):
    """Return the part of rule that orders block, told from its first place on."""
    begin, end = block
    return tuple([goal - begin for goal in rule[begin:end]])


def is_forward(rule):
    """Return whether every place but the first one of its block is led ahead."""
    begins = walls(rule)
    return all([place in begins or rule[place] < place for place in range(len(rule))])


def is_front(rule):
    """Return whether every place but the first one of its block is led to this first one."""
    return all([rule[begin:end] == (begin,) * (end - begin) for begin, end in blocks(rule)])
