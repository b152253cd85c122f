"""Rows of texts, each by itself."""

from calledroom.sums import is_word
from calledroom.wording import number_read, sum_read, value_read
from calledroom.worlds import BELL_SORTS

# The sorts of the words behind the first one.
HEADS = {
    "pass": ("word", "value"),
    "open": ("word", "value"),
    "room": ("word", "manner"),
    "thing": ("word", "value"),
    "bell": ("word", "sort"),
    "deed": ("word",),
    "hand": (),
}
ROWS = {
    "put": ("word", "sum"),
    "unless": ("number", "sum"),
    "go": ("number",),
    "do": ("goal", "word", "word", "sum"),
    "wait": ("word", "sum"),
    "call": ("word",),
    "all": ("word",),
    "tell": ("sum",),
    "take": ("word",),
    "give": ("word",),
    "pass": ("word", "word"),
    "say": ("sum",),
}
MANNER_OF = {"at-once": "at once", "when-free": "when free"}


def row_read(text):
    """What a text's row tells: its sort, "row" for all of programs, and its parts; no sort where it has no form."""
    words = text.split(" ")
    head = words[0]
    parts = parts_read(HEADS[head], words[1:]) if head in HEADS else None
    if parts is not None:
        return (head, parts)
    # A pass of the world and a row that passes begin alike.
    parts = parts_read(ROWS[head], words[1:]) if head in ROWS else None
    if parts is None:
        return (None, None)
    return ("row", (head, parts[1], parts[0]) if head == "unless" else (head,) + parts)


def parts_read(sorts, words):
    """The tuple of the parts of these sorts that the words tell, or None; a sum has all words that are left."""
    if "sum" in sorts:
        many = len(sorts) - 1
        words = words[:many] + [words[many:]]
    if len(words) != len(sorts):
        return None
    found = [part_read(sort, word) for sort, word in zip(sorts, words)]
    return None if [] in found else tuple([part for parts in found for part in parts])


def part_read(sort, word):
    """A list of the part that a word tells, a sum's words, or an empty one: the part itself may be None."""
    if sort == "goal" and word == "-":
        return [None]
    part = told_by(sort, word)
    return [] if part is None else [part]


def told_by(sort, word):
    """The part that a word, or a sum's words, tell, or None."""
    if sort == "sum":
        return sum_read(word)
    if sort == "value":
        return value_read(word)
    if sort == "number":
        return number_read(word)
    if sort == "manner":
        return MANNER_OF[word] if word in MANNER_OF else None
    if sort == "sort":
        return word if word in BELL_SORTS else None
    return word if is_word(word) else None
