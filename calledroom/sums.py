"""Sums: what the rows of programs reckon with, over values, things and bells."""

LETTERS = "abcdefghijklmnopqrstuvwxyz"
LONGEST = 8
HIGHEST = 9
DEEPEST = 5
OF_TWO = ("plus", "minus", "less", "same", "both")


def is_whole(thing):
    """Whether it is a whole number."""
    # Python holds True and False to be ints; here they are none.
    return isinstance(thing, int) and not isinstance(thing, bool)


def is_value(thing):
    """Whether it is a whole number from 0 to 9."""
    return is_whole(thing) and 0 <= thing <= HIGHEST


def is_word(thing):
    """Whether it is a text of one to eight small letters."""
    if not isinstance(thing, str) or not 1 <= len(thing) <= LONGEST:
        return False
    return all([sign in LETTERS for sign in thing])


def is_sum(thing):
    """Whether it is a sum, whatever it is."""
    return is_sum_within(thing, DEEPEST)


def is_sum_within(thing, deep):
    """Whether it is a sum at most so deep."""
    if deep < 1:
        return False
    if not isinstance(thing, tuple):
        return is_value(thing) or is_word(thing)
    # A first part that is no text may not even be comparable.
    if len(thing) == 0 or not isinstance(thing[0], str):
        return False
    if thing[0] == "waits":
        return len(thing) == 2 and is_word(thing[1])
    if len(thing) != parts_asked(thing[0]) + 1:
        return False
    return all([is_sum_within(part, deep - 1) for part in thing[1:]])


def parts_asked(form):
    """How many sums stand in this form, -1 where there is no such form."""
    if form in OF_TWO:
        return 2
    return 1 if form == "not" else -1


def words_of(tree):
    """The rising tuple of the words in a sum, but those in waits."""
    words = []
    gather(tree, words, [])
    return tuple(sorted(set(words)))


def bells_of(tree):
    """The rising tuple of the words in a sum's waits."""
    bells = []
    gather(tree, [], bells)
    return tuple(sorted(set(bells)))


def gather(tree, words, bells):
    """Put a sum's words and its bells behind those that are there."""
    if isinstance(tree, str):
        words.append(tree)
    elif isinstance(tree, tuple) and tree[0] == "waits":
        bells.append(tree[1])
    elif isinstance(tree, tuple):
        for part in tree[1:]:
            gather(part, words, bells)


def value_of(tree, things, waiting):
    """The value of a sum, by the values of its words and by how many wait at its bells."""
    if isinstance(tree, int):
        return tree
    if isinstance(tree, str):
        return things[tree]
    if tree[0] == "waits":
        return 1 if waiting[tree[1]] > 0 else 0
    first = value_of(tree[1], things, waiting)
    if tree[0] == "not":
        return 1 if first == 0 else 0
    return value_of_two(tree[0], first, value_of(tree[2], things, waiting))


def value_of_two(form, first, second):
    """What a form of two parts makes of their values."""
    if form == "plus":
        return min(first + second, HIGHEST)
    if form == "minus":
        return max(first - second, 0)
    if form == "less":
        return 1 if first < second else 0
    if form == "same":
        return 1 if first == second else 0
    return 1 if first != 0 and second != 0 else 0
