"""Deeds whose rows stand once in a hand's program, however many rows do them."""

from calledroom.copies import asks_given, may_end_untold
from calledroom.writings import tree_in, write_given


class Subdeed:
    """The labels at which a deed begins and at which it has ended, and those behind the rows that do it."""

    def __init__(self, sheet):
        self.entry = sheet.label()
        self.outlet = sheet.label()
        self.senders = []


def make_sent(writing, copy, row):
    """Write a do by going to where the deed's rows stand."""
    form, goal, room, deed, tree = row
    key = (room, deed)
    program, sheet = writing.deeds[key], writing.sheet
    if key not in writing.subdeeds:
        writing.subdeeds[key] = Subdeed(sheet)
    given = tree_in(writing, copy, tree)
    if asks_given(program):
        write_given(writing, key, given)
    if goal is not None and may_end_untold(program):
        sheet.write(("put", writing.extra("told", key), 0))
    write_return(writing, key)
    if goal is not None:
        sheet.write(("put", copy.word_for(goal), writing.extra("told", key)))


def write_return(writing, key):
    """Write that the deed is gone to, the sender's number put aside, and mark where it leads back to."""
    subdeed, sheet = writing.subdeeds[key], writing.sheet
    for place, figure in enumerate(figures_of(len(subdeed.senders), writing.width)):
        sheet.write(("put", writing.extra("back", (key, place)), figure))
    sheet.write(("go", subdeed.entry))
    onward = sheet.label()
    sheet.mark(onward)
    subdeed.senders.append(onward)


def figures_of(number, width):
    """The figures of a number, with noughts ahead."""
    return [int(figure) for figure in str(number).zfill(width)]


def write_outlets(writing):
    """Write how each deed that has ended leads back to the one of its senders whose number was put aside."""
    sheet = writing.sheet
    for key, subdeed in writing.subdeeds.items():
        sheet.mark(subdeed.outlet)
        for number, onward in enumerate(subdeed.senders[:-1]):
            other = sheet.label()
            sheet.write(("unless", is_sender(writing, key, number), other))
            sheet.write(("go", onward))
            sheet.mark(other)
        sheet.write(("go", subdeed.senders[-1]))


def is_sender(writing, key, number):
    """The sum that tells whether this is the sender's number that was put aside."""
    figures = figures_of(number, writing.width)
    trees = [("same", writing.extra("back", (key, place)), figure) for place, figure in enumerate(figures)]
    tree = trees[0]
    for part in trees[1:]:
        tree = ("both", tree, part)
    return tree
