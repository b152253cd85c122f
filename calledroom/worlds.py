"""Worlds: rooms, passes, open things and hands, and what each of their programs may name."""

from calledroom.sums import bells_of, is_sum, is_value, is_whole, is_word, words_of

MOST_ROWS = 40
MOST_ROOMS = 4
MOST_ROOM_THINGS = 4
MOST_BELLS = 3
MOST_DEEDS = 4
MOST_PASSES = 16
MOST_OPEN_THINGS = 16
MOST_HANDS = 4
MOST_OWN_THINGS = 8
MANNERS = ("at once", "when free")
BELL_SORTS = ("row", "turns")

# The sorts of what stands behind each row's first word.
DEED_FORMS = {
    "put": ("thing", "sum"),
    "unless": ("sum", "place"),
    "go": ("place",),
    "do": ("goal", "name", "name", "sum"),
    "wait": ("bell", "sum"),
    "call": ("bell",),
    "all": ("bell",),
    "tell": ("sum",),
}
HAND_FORMS = {
    "put": ("thing", "sum"),
    "unless": ("sum", "place"),
    "go": ("place",),
    "do": ("goal", "name", "name", "sum"),
    "take": ("pass",),
    "give": ("pass",),
    "pass": ("pass", "pass"),
    "say": ("sum",),
}


def is_world(thing):
    """Whether it is a world, whatever it is."""
    if not isinstance(thing, tuple) or len(thing) != 4:
        return False
    if not are_rooms(thing[0]) or not are_passes(thing[1]):
        return False
    if not are_things(thing[2], MOST_OPEN_THINGS) or not are_hands(thing[3]):
        return False
    if shares_a_word(thing[0], thing[1]):
        return False
    if any([shares_a_word(things, thing[2]) for things, program in thing[3]]):
        return False
    return has_fit_deeds(thing) and has_fit_hands(thing) and has_no_rings(thing[0])


def is_roll(thing, size, most):
    """Whether it is a tuple of at most so many tuples of this size, rising by unlike words ahead."""
    if not isinstance(thing, tuple) or len(thing) > most:
        return False
    for row in thing:
        if not isinstance(row, tuple) or len(row) != size or not is_word(row[0]):
            return False
    return all([thing[at - 1][0] < thing[at][0] for at in range(1, len(thing))])


def is_one_of(thing, texts):
    """Whether it is one of these texts."""
    return isinstance(thing, str) and thing in texts


def are_things(thing, most):
    """Whether it is a rising tuple of at most so many things with their values."""
    if not is_roll(thing, 2, most):
        return False
    return all([word != "given" and is_value(value) for word, value in thing])


def are_passes(thing):
    """Whether it is a world's tuple of passes."""
    return is_roll(thing, 2, MOST_PASSES) and all([is_value(value) for name, value in thing])


def are_bells(thing):
    """Whether it is a room's tuple of bells."""
    return is_roll(thing, 2, MOST_BELLS) and all([is_one_of(sort, BELL_SORTS) for bell, sort in thing])


def are_deeds(thing):
    """Whether it is a room's tuple of deeds, whatever rows their programs have."""
    if not is_roll(thing, 2, MOST_DEEDS) or len(thing) == 0:
        return False
    return all([is_program(program) for deed, program in thing])


def are_rooms(thing):
    """Whether it is a world's tuple of rooms, whatever rows their programs have."""
    return is_roll(thing, 5, MOST_ROOMS) and all([is_room(room) for room in thing])


def is_room(room):
    """Whether a tuple of five has a room's manner, things, bells and deeds."""
    name, manner, things, bells, deeds = room
    if not is_one_of(manner, MANNERS) or not are_things(things, MOST_ROOM_THINGS):
        return False
    return are_bells(bells) and are_deeds(deeds)


def are_hands(thing):
    """Whether it is a world's tuple of hands, whatever rows their programs have."""
    if not isinstance(thing, tuple) or not 1 <= len(thing) <= MOST_HANDS:
        return False
    return all([is_hand(hand) for hand in thing])


def is_hand(thing):
    """Whether it is a hand, whatever rows its program has."""
    if not isinstance(thing, tuple) or len(thing) != 2:
        return False
    return are_things(thing[0], MOST_OWN_THINGS) and is_program(thing[1])


def is_program(thing):
    """Whether it has a program's size, whatever its rows are."""
    return isinstance(thing, tuple) and 1 <= len(thing) <= MOST_ROWS


def names_of(roll):
    """The first words of a tuple of tuples."""
    return [row[0] for row in roll]


def shares_a_word(one, other):
    """Whether a first word of the one is one of the other, too."""
    return any([name in names_of(other) for name in names_of(one)])


def deeds_there(rooms):
    """All pairs of a room's name and one of its deeds'."""
    return [(room[0], deed) for room in rooms for deed in names_of(room[4])]


def has_fit_deeds(world):
    """Whether each row of each deed is one that may stand there."""
    return all([is_fit_room(room, deeds_there(world[0])) for room in world[0]])


def is_fit_room(room, deeds):
    """Whether each row of this room's deeds is one that may stand there."""
    name, manner, things, bells, own = room
    words = names_of(things)
    reach = {"thing": words, "word": words + ["given"], "bell": names_of(bells), "deed": deeds}
    if not all([is_fit_program(program, dict(DEED_FORMS), reach) for deed, program in own]):
        return False
    return manner == "when free" or not has_all(room)


def has_all(room):
    """Whether a deed of this room has a row by which all are called."""
    return any([row[0] == "all" for deed, program in room[4] for row in program])


def has_fit_hands(world):
    """Whether each row of each hand's program is one that may stand there."""
    rooms, passes, shared, hands = world
    for things, program in hands:
        words = names_of(things) + names_of(shared)
        reach = {"thing": words, "word": words, "bell": [], "deed": deeds_there(rooms), "pass": names_of(passes)}
        if not is_fit_program(program, dict(HAND_FORMS), reach):
            return False
    return True


def is_fit_program(program, forms, reach):
    """Whether each row has one of these forms and names what is in reach alone."""
    return all([is_fit_row(row, forms, reach, len(program)) for row in program])


def is_fit_row(row, forms, reach, last):
    """Whether the row has one of these forms and names what is in reach alone."""
    if not isinstance(row, tuple) or len(row) == 0 or not isinstance(row[0], str):
        return False
    if row[0] not in forms or len(row) != len(forms[row[0]]) + 1:
        return False
    if not all([is_fit_part(sort, part, reach, last) for sort, part in zip(forms[row[0]], row[1:])]):
        return False
    return row[0] != "do" or (row[2], row[3]) in reach["deed"]


def is_fit_part(sort, part, reach, last):
    """Whether a part of a row is of this sort and names what is in reach alone."""
    if sort == "sum":
        return is_fit_sum(part, reach)
    if sort == "place":
        return is_whole(part) and 0 <= part <= last
    if sort == "name":
        return is_word(part)
    if sort == "goal":
        return part is None or is_fit_part("thing", part, reach, last)
    return is_word(part) and part in reach[sort]


def is_fit_sum(thing, reach):
    """Whether it is a sum of words and bells in reach alone."""
    if not is_sum(thing):
        return False
    if not all([word in reach["word"] for word in words_of(thing)]):
        return False
    return all([bell in reach["bell"] for bell in bells_of(thing)])


def has_no_rings(rooms):
    """Whether no deed comes to itself by do."""
    leads = {}
    for room in rooms:
        for deed, program in room[4]:
            leads[(room[0], deed)] = [(row[2], row[3]) for row in program if row[0] == "do"]
    # Deeds that lead to none of those left are taken away, until only rings are left.
    while leads:
        free = [deed for deed in leads if not any([goal in leads for goal in leads[deed]])]
        if not free:
            return False
        for deed in free:
            del leads[deed]
    return True
