"""Values with parts changed: exchanged, left out, put in, at each depth."""

# What is put in the place of a part, or beside it.
STRANGERS = (None, True, False, -1, 0, 1, 12, 10 ** 399, "", "a", (), (0,), [], [0], {}, ((),))


def paths(value, ahead=()):
    """The ways to value itself and to all that stands within it, through tuples."""
    yield ahead
    if isinstance(value, tuple):
        for place, item in enumerate(value):
            yield from paths(item, ahead + (place,))


def part_at(value, path):
    """What stands at the end of a way."""
    for place in path:
        value = value[place]
    return value


def with_items(value, path, items):
    """value with the items, any number of them, in the place of what stands at the end of a way that is not empty."""
    place = path[0]
    if len(path) > 1:
        items = (with_items(value[place], path[1:], items),)
    return value[:place] + tuple(items) + value[place + 1:]


def near(item):
    """Values that are nearly item."""
    found = list(STRANGERS)
    if isinstance(item, tuple):
        found += [list(item), item + (0,), item + item, item[::-1], item[:-1]]
    if type(item) is int:
        found += [item + 1, item - 1, item + 2, str(item), bool(item), (item,)]
    if isinstance(item, str):
        found += [item + "x", item[:-1], item.upper(), (item,)]
    return found


def changed_once(value):
    """value with one part, at each depth, left out, told twice, exchanged, or with something else ahead of it."""
    for item in near(value):
        yield item
    for path in paths(value):
        if path == ():
            continue
        item = part_at(value, path)
        yield with_items(value, path, ())
        yield with_items(value, path, (item, item))
        for other in near(item):
            yield with_items(value, path, (other,))
            yield with_items(value, path, (other, item))


def some_change(chance, value):
    """value with one part changed by chance; value itself, if it has no parts."""
    ways = [path for path in paths(value) if path] if isinstance(value, tuple) else []
    if not ways:
        return value
    path = chance.choice(ways)
    item = part_at(value, path)
    other = chance.choice(near(item))
    return with_items(value, path, chance.choice(((), (item, item), (other,), (other,), (other, item), (item, other))))
