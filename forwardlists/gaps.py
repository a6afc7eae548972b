"""How much more a text can cost from one order than from another one."""

from forwardlists.asking import run
from forwardlists.blocks import is_front
from forwardlists.bounds import MAX_PAIRED
from forwardlists.classes import comes_out
from forwardlists.coding import text_behind
from forwardlists.errors import TooMany, Unfit
from forwardlists.views import view, view_behind


def unlike(one, other):
    """Return how many pairs of letters stand in unlike orders in one and other."""
    seen = view(one, other)
    return sum([len([ahead for ahead in seen[:at] if ahead > place]) for at, place in enumerate(seen)])


def _check_bounded(rule, one, other):
    """Raise Unfit if rule bounds no gaps, or if other does not come out of one by it."""
    # By a rule that leads all to the front nothing stays that comes_out would refuse.
    if not is_front(rule) or not comes_out(rule, one, other):
        raise Unfit()


def gap(rule, one, other):
    """Return the greatest number by which a text costs more from one than from other."""
    _check_bounded(rule, one, other)
    return unlike(one, other)


def gap_text(rule, one, other):
    """Return a text that costs just so much more from one than from other as is possible."""
    _check_bounded(rule, one, other)
    # Of each unlike pair the one asked first stands ahead in other, behind in one.
    return other


def _all_steps(rule, start):
    """Return for each view that comes of start its asks: triples of a place, the view behind, and what is gained."""
    steps = {}
    waiting = [start]
    while len(waiting) > 0:
        seen = waiting.pop()
        if seen not in steps:
            steps[seen] = [(place, view_behind(rule, seen, place), place - at) for at, place in enumerate(seen)]
            waiting.extend([step[1] for step in steps[seen]])
    return steps


def _one_ask_later(steps, best):
    """Return what best becomes if one ask more is let.

    It leads each view to a pair: by how much more the asks cost that lead there and
    gain most, and the places of the first order at which these find their letters.
    """
    later = {seen: best[seen] for seen in best}
    for seen in best:
        number, places = best[seen]
        for place, behind, gain in steps[seen]:
            if behind not in later or number + gain > later[behind][0]:
                later[behind] = (number + gain, places + (place,))
    return later


def _first_round(rule, start, places):
    """Return those of places that lead from start to the first view that comes twice, and those between."""
    views = []
    now = start
    for place in places:
        if now in views:
            break
        views.append(now)
        now = view_behind(rule, now, place)
    back = views.index(now)
    return places[:back], places[back:len(views)]


def _until_back(rule, order, places):
    """Return the text of asks at these places from order, again and again until order is back."""
    text = ()
    now = order
    while text == () or now != order:
        more = text_behind(rule, now, places)
        text = text + more
        now = run(rule, now, more)
    return text


def pair_gap(rule, one, other):
    """Return the greatest number by which a text costs more from one, or texts by which there is none."""
    if len(rule) > MAX_PAIRED:
        raise TooMany(MAX_PAIRED)
    start = view(one, other)
    steps = _all_steps(rule, start)
    best = {start: (0, ())}
    for _ in range(len(steps)):
        best = _one_ask_later(steps, best)
    number, places = max(list(best.values()))
    # As many asks as there are views come to some view twice: they are best only if they gained between.
    endless = [longer for _, longer in best.values() if len(longer) == len(steps)]
    if len(endless) == 0:
        return ("most", number, text_behind(rule, one, places))
    lead, again = _first_round(rule, start, endless[0])
    ahead = text_behind(rule, one, lead)
    return ("endless", ahead, _until_back(rule, run(rule, one, ahead), again))
