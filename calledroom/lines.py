"""Lines that are said at a desk, and what they ask for."""

from calledroom.errors import NoLine
from calledroom.sums import bells_of, words_of
from calledroom.wording import number_read, sum_read
from calledroom.worlds import names_of

MOST_ASKED = 2000

# The sorts of the words behind each line's first one.
LINES = {
    "run": ("hand", "number"),
    "back": (),
    "hands": (),
    "stand": ("hand",),
    "said": (),
    "room": ("room",),
    "rings": (),
    "stuck": ("number",),
    "promise": ("number", "room", "promise"),
    "manner": ("number", "room"),
    "book": ("number",),
    "world": (),
}


def line_read(world, line):
    """A line's first word, and the tuple of what stands behind it, whatever is handed in."""
    if not isinstance(line, str):
        raise NoLine("a line is a text")
    words = line.split(" ")
    if words[0] not in LINES:
        raise NoLine("no line begins so")
    parts = parts_asked_for(world, LINES[words[0]], words[1:])
    if parts is None:
        raise NoLine(f"no line of {words[0]} is so")
    return (words[0], parts)


def parts_asked_for(world, sorts, words):
    """The tuple of the parts of these sorts that the words tell, or None; a promise has all words that are left."""
    if "promise" in sorts:
        words = words[:2] + [words[2:]]
    if len(words) != len(sorts):
        return None
    parts = [part_asked_for(world, sort, word) for sort, word in zip(sorts, words)]
    if None in parts or ("promise" in sorts and not is_promise(world, parts[1], parts[2])):
        return None
    return tuple(parts)


def part_asked_for(world, sort, word):
    """The part that a word, or a promise's words, tell, or None."""
    if sort == "promise":
        return sum_read(word)
    if sort == "room":
        names = names_of(world[0])
        return names.index(word) if word in names else None
    number = number_read(word)
    if number is None:
        return None
    is_there = number < len(world[3]) if sort == "hand" else 1 <= number <= MOST_ASKED
    return number if is_there else None


def is_promise(world, room, tree):
    """Whether the sum is one of the room's things alone, without waits."""
    words = names_of(world[0][room][2])
    return not bells_of(tree) and all([word in words for word in words_of(tree)])
