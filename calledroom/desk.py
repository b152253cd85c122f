"""The desk: a world, a weaving, and lines by which both are asked."""

from calledroom.books import book
from calledroom.errors import NoManner
from calledroom.holding import held
from calledroom.lines import line_read
from calledroom.manners import exchanged
from calledroom.promises import broken_way
from calledroom.reading import read_world
from calledroom.rings import rings
from calledroom.scenes import NOBODY, begun, hands_at, stands
from calledroom.showing import show_world
from calledroom.steps import may_step, step_of
from calledroom.stuckness import stuck_way


def joined(sign, things):
    """All things with the sign between, a dash where there are none."""
    return sign.join([str(thing) for thing in things]) if things else "-"


def pair_shown(pair):
    """An event, or a hand and a room's name, as they are said."""
    return f"{pair[0]}:{pair[1]}"


def events_shown(events):
    """Events as they are said."""
    return joined(" ", [pair_shown(event) for event in events])


def way_shown(told):
    """A way that was told, or the one word that was."""
    if told[0] != "way":
        return told[0]
    weaving = joined(".", told[1])
    return f"way {weaving}"


def answer_run(desk, parts):
    """Step with a hand so often, or as often as can be, and tell how often."""
    hand, most = parts
    many = 0
    while many < most and hand in may_step(desk.world, desk.scene()):
        desk.trail.append(step_of(desk.world, desk.scene(), hand))
        many += 1
    return str(many)


def answer_back(desk, parts):
    """Take the last step back, if there is one."""
    if len(desk.trail) == 1:
        return "none"
    desk.trail.pop()
    return "done"


def answer_hands(desk, parts):
    """Who may step."""
    return joined(" ", may_step(desk.world, desk.scene()))


def answer_stand(desk, parts):
    """Where a hand stands."""
    return " ".join(stands(desk.world, desk.scene(), parts[0]))


def answer_said(desk, parts):
    """All events of the weaving."""
    return events_shown([event for scene, event in desk.trail if event is not None])


def answer_room(desk, parts):
    """How a room is: its values, who is within, its row, who is late, and who waits at each bell."""
    values, within, row, late, bells = desk.scene()[0][parts[0]]
    ahead = [str(value) for value in values] + ["-" if within == NOBODY else str(within)]
    lines = [row, late] + [hands_at(line) for line in bells]
    return " ".join(ahead + [joined(".", line) for line in lines])


def answer_rings(desk, parts):
    """All rings."""
    found = rings(desk.world, desk.scene())
    return joined(" ", [joined(".", [pair_shown(pair) for pair in ring]) for ring in found])


def answer_stuck(desk, parts):
    """The way to where nobody can go on."""
    return way_shown(stuck_way(desk.world, parts[0]))


def answer_promise(desk, parts):
    """The way by which a promise of a room is broken."""
    most, room, promise = parts
    return way_shown(broken_way(desk.world, room, promise, most))


def answer_manner(desk, parts):
    """How the world is held against the one with a room of the other manner."""
    most, room = parts
    try:
        other = exchanged(desk.world, room)
    except NoManner:
        return "no manner"
    told = held(desk.world, other, most)
    if told[0] != "parts":
        return told[0]
    what = told[2] if isinstance(told[2], str) else pair_shown(told[2])
    return f"parts {events_shown(told[1])} {what}"


def answer_book(desk, parts):
    """How many scenes there are."""
    sort, scenes = book(desk.world, parts[0])
    return str(len(scenes)) if sort == "all" else sort


def answer_world(desk, parts):
    """The world's text."""
    return show_world(desk.world)


ANSWERS = {
    "run": answer_run,
    "back": answer_back,
    "hands": answer_hands,
    "stand": answer_stand,
    "said": answer_said,
    "room": answer_room,
    "rings": answer_rings,
    "stuck": answer_stuck,
    "promise": answer_promise,
    "manner": answer_manner,
    "book": answer_book,
    "world": answer_world,
}


class Desk:
    """A world that was read, and a weaving of it: behind each step the scene and the event, the begun one first."""

    def __init__(self, text):
        self.world = read_world(text)
        self.trail = [(begun(self.world), None)]

    def scene(self):
        """The scene behind the weaving."""
        return self.trail[-1][0]

    def say(self, line):
        """The answer to a line, whatever is handed in."""
        word, parts = line_read(self.world, line)
        answer = ANSWERS[word]
        return answer(self, parts)
