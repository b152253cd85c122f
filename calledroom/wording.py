"""Words of texts: sums and numbers as they are written, and as they are read."""

from calledroom.sums import DEEPEST, is_word, parts_asked

FIGURES = "0123456789"
MOST_FIGURES = 4
SIGN_OF = {"plus": "+", "minus": "-", "less": "<", "same": "=", "both": "&", "not": "!", "waits": "?"}
FORM_OF = {"+": "plus", "-": "minus", "<": "less", "=": "same", "&": "both", "!": "not", "?": "waits"}


def sum_written(tree):
    """A sum's words with blanks between."""
    if isinstance(tree, str):
        return tree
    if not isinstance(tree, tuple):
        return str(tree)
    return " ".join([SIGN_OF[tree[0]]] + [sum_written(part) for part in tree[1:]])


def sum_read(words):
    """The sum that just these words tell, or None."""
    tree, at = sum_from(words, 0, DEEPEST)
    return tree if at == len(words) else None


def sum_from(words, at, deep):
    """The sum at most so deep whose words begin at this place, and the place behind them; None where there is none."""
    if deep < 1 or at >= len(words):
        return (None, at)
    word = words[at]
    if word not in FORM_OF:
        return (plain_read(word), at + 1)
    form = FORM_OF[word]
    if form == "waits":
        named = at + 1 < len(words) and is_word(words[at + 1])
        return (("waits", words[at + 1]) if named else None, at + 2)
    parts = []
    at += 1
    for number in range(parts_asked(form)):
        part, at = sum_from(words, at, deep - 1)
        if part is None:
            return (None, at)
        parts.append(part)
    return ((form,) + tuple(parts), at)


def plain_read(word):
    """The value or the word that a word of a text tells, or None."""
    return word if is_word(word) else value_read(word)


def value_read(word):
    """The value that a figure tells, or None."""
    return int(word) if len(word) == 1 and word in FIGURES else None


def number_read(word):
    """The number that one to four figures tell, no 0 ahead but in 0, or None."""
    if not 1 <= len(word) <= MOST_FIGURES or not all([sign in FIGURES for sign in word]):
        return None
    return None if word[0] == "0" and len(word) > 1 else int(word)
