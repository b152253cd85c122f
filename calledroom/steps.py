"""Steps: which hands may step, and the scenes and events that steps lead to."""

from calledroom.errors import NoStep
from calledroom.rows import come_in, end_deed, reckoned, row_done
from calledroom.scenes import OWN, at_row, begun, hands_at, last_frame, program_of


def may_step(world, scene):
    """The rising list of the hands that may step."""
    held_up = hands_in_rows(scene)
    return [hand for hand in range(len(scene[3])) if hand not in held_up and not is_behind_all(world, scene, hand)]


def hands_in_rows(scene):
    """All hands that stand in a row of a pass or a room, late, or at a bell."""
    hands = []
    for value, row in scene[1]:
        hands.extend(row)
    for values, within, row, late, bells in scene[0]:
        hands.extend(row + late)
        for line in bells:
            hands.extend(hands_at(line))
    return hands


def is_behind_all(world, scene, hand):
    """Whether a hand has come behind the last row of its own program."""
    frame = last_frame(scene, hand)
    return frame[0] == OWN and frame[2] == len(program_of(world, hand, frame))


def stepped(world, scene, hand):
    """The scene behind a hand's step, and the step's event or None."""
    if hand not in may_step(world, scene):
        raise NoStep(0)
    return step_of(world, scene, hand)


def walked(world, weaving):
    """The scene behind all steps of a weaving, and the tuple of their events."""
    scene = begun(world)
    events = []
    for place, hand in enumerate(weaving):
        if hand not in may_step(world, scene):
            raise NoStep(place)
        scene, event = step_of(world, scene, hand)
        if event is not None:
            events.append(event)
    return (scene, tuple(events))


def step_of(world, scene, hand):
    """The scene and the event of a step by a hand that may step."""
    frame = last_frame(scene, hand)
    room = frame[0]
    if room != OWN and scene[0][room][1] != hand:
        return (come_in(scene, room, hand), None)
    program = program_of(world, hand, frame)
    if frame[2] == len(program):
        return (end_deed(world, scene, hand), None)
    row = program[frame[2]]
    event = None
    if row[0] == "say":
        event = (hand, reckoned(world, scene, hand, row[1]))
    return (row_done(world, at_row(scene, hand, frame[2] + 1), hand, row), event)
