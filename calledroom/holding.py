"""Two worlds held against one another by what they say."""

from calledroom.crowds import Scenery


def held(one, other, most):
    """That both worlds are alike, with all pairs of crowds; or the first row by size that parts them; or too many."""
    sides = (Scenery(one), Scenery(other))
    pairs = [first_pair(sides, most)]
    rows = [()]
    seen = set(pairs)
    told = told_at(sides, pairs, rows, most)
    at = 0
    while told is None and at < len(pairs):
        # Nothing was told of this pair, so the events of the one are those of both.
        events = sides[0].marks(pairs[at][0])[0]
        for event in events:
            pair = pair_behind(sides, pairs[at], event, most)
            if told is None and pair not in seen:
                seen.add(pair)
                pairs.append(pair)
                rows.append(rows[at] + (event,))
                told = told_at(sides, pairs, rows, most)
        at += 1
    return ("alike", tuple([shown_pair(sides, pair) for pair in pairs])) if told is None else told


def first_pair(sides, most):
    """The crowds of both begun scenes, None for one of more than most scenes."""
    return tuple([side.first(most) for side in sides])


def pair_behind(sides, pair, event, most):
    """The crowds of both behind an event, () for one that hasn't it, None for one of more than most scenes."""
    return tuple([side.behind(crowd, event, most) for side, crowd in zip(sides, pair)])


def shown_pair(sides, pair):
    """Both crowds by their scenes themselves."""
    return tuple([side.shown(crowd) for side, crowd in zip(sides, pair)])


def marks_of_pair(sides, pair):
    """The marks of both crowds."""
    return [side.marks(crowd) for side, crowd in zip(sides, pair)]


def told_at(sides, pairs, rows, most):
    """What the last pair found tells: that it is too much, or that its row parts the worlds; else None."""
    if None in pairs[-1] or len(pairs) > most:
        return ("open", None)
    mine, yours = marks_of_pair(sides, pairs[-1])
    if mine == yours:
        return None
    return ("parts", rows[-1], first_unlike(mine, yours))


def first_unlike(mine, yours):
    """The first thing in which marks are unlike: the least event that just one has, done, or stuck."""
    events = sorted(set(mine[0]) ^ set(yours[0]))
    if events:
        return events[0]
    return "done" if mine[1] != yours[1] else "stuck"
