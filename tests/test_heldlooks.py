"""Point [20]'s looks, and [3](e) and [2] for them."""

import unittest

from calledroom.crowds import crowd_of
from calledroom.heldlooks import shows_alike, shows_parts
from calledroom.holding import held
from calledroom.scenes import begun
from tests.helper import Odd, changed, odd_things, own, part_at, paths_of, room, thrown_world, world
from tests.talking import behind, closed, marks, pairs_by_rows, thrown_pair, unlike
from tests.test_booklooks import otherwise

SAYS = (("say", 0), ("say", 1), ("say", 2))


def talker(*programs):
    return world(programs, passes=(("p", 0),), shared=(("o", 0),))


def is_paper(one, other, pairs):
    """What [20] asks of a tuple of pairs of crowds, word by word."""
    if not pairs or pairs[0] != (closed(one, [begun(one)]), closed(other, [begun(other)])):
        return False
    goals = []
    for mine, yours in pairs:
        events = marks(one, mine)[0]
        if marks(one, mine) != marks(other, yours):
            return False
        goals.append([(behind(one, mine, event), behind(other, yours, event)) for event in events])
    for at, pair in enumerate(pairs):
        if pair in pairs[:at] or (at > 0 and not any([pair in row for row in goals[:at]])):
            return False
    return all([goal in pairs for row in goals for goal in row])


def alike_worlds():
    """Small worlds that are alike, each with what held tells of them."""
    couples = [thrown_pair(seed) for seed in range(60)]
    couples += [(talker(SAYS), talker((("go", 1),) + SAYS)), (talker(SAYS[:1], SAYS[:2]), talker(SAYS[:1], SAYS[:2]))]
    for one, other in couples:
        told = held(one, other, 12)
        if told[0] == "alike":
            yield one, other, told[1]


def waiting_worlds():
    """Two worlds that are alike and in whose scenes each line is somewhere filled."""
    deeds = {"d": (("wait", "x", 0),), "e": (("call", "x"),)}
    worlds = []
    for manner in ("at once", "when free"):
        rooms = [room("r", deeds, manner, (("t", 1),), (("x", "row"),))]
        worlds.append(world([(("do", None, "r", "d", 0),), (("do", None, "r", "e", 0), ("say", 1))], rooms))
    return worlds


class ShowsAlike(unittest.TestCase):
    def taken(self, one, other, thing, expected=True):
        self.assertIs(shows_alike(one, other, thing), expected)

    def test_papers_told(self):
        for seed in range(60):
            one = thrown_world(seed)
            self.taken(one, one, held(one, one, 3000)[1])
        alike = 0
        for seed in range(120):
            one, other = thrown_pair(seed)
            told = held(one, other, 3000)
            if told[0] == "alike":
                alike += 1
                self.taken(one, other, told[1])
                self.taken(other, one, told[1], told[1] == held(other, one, 3000)[1])
        self.assertGreater(alike, 20)

    def test_what_is_told_is_not_the_paper(self):
        one = talker(SAYS)
        told = held(one, one, 100)
        self.taken(one, one, told, False)
        self.taken(one, one, list(told[1]), False)
        self.taken(one, one, ("open", None), False)

    def test_a_pair_left_out_or_twice(self):
        for one, other, pairs in alike_worlds():
            for at, pair in enumerate(pairs):
                self.taken(one, other, pairs[:at], False)
                self.taken(one, other, pairs[:at] + pairs[at + 1:], False)
                self.taken(one, other, pairs[:at] + (pair,) + pairs[at:], False)
                self.taken(one, other, pairs + (pair,), False)
                if at > 0:
                    self.taken(one, other, pairs[:at] + (pairs[at - 1],) + pairs[at + 1:], False)

    def test_two_exchanged(self):
        told = []
        for one, other, pairs in alike_worlds():
            for first in range(len(pairs)):
                for second in range(first):
                    thing = list(pairs)
                    thing[first], thing[second] = thing[second], thing[first]
                    told.append(is_paper(one, other, tuple(thing)))
                    self.taken(one, other, tuple(thing), told[-1])
        self.assertGreater(told.count(True), 3)
        self.assertGreater(told.count(False), 20)

    def test_another_order(self):
        one = talker((("say", 5),), (("say", 3),))
        first, second, third, last = held(one, one, 9)[1]
        for thing in ((first, third, second, last), (first, second, last, third), (first, third, last, second)):
            self.taken(one, one, thing)
        for thing in ((first, last, second, third), (second, first, third, last), (last, third, second, first)):
            self.taken(one, one, thing, False)

    def test_the_first_pair_not_first(self):
        for one, other, pairs in alike_worlds():
            if len(pairs) > 1:
                self.taken(one, other, pairs[1:] + pairs[:1], False)
                self.taken(one, other, pairs[::-1], False)

    def test_begun_is_come_to_again(self):
        one = talker((("go", 1), ("say", 0), ("go", 0)))
        pairs = held(one, one, 9)[1]
        self.taken(one, one, pairs)
        self.taken(one, one, pairs[::-1], len(pairs) == 1)

    def test_pairs_turned_about(self):
        one, other = talker(SAYS), talker((("go", 1),) + SAYS)
        pairs = held(one, other, 9)[1]
        self.taken(one, other, pairs)
        self.taken(other, one, pairs, False)
        self.taken(other, one, tuple([(yours, mine) for mine, yours in pairs]))
        for at in range(len(pairs)):
            self.taken(one, other, pairs[:at] + (pairs[at][::-1],) + pairs[at + 1:], False)

    def test_a_crowd_with_a_scene_less_or_more(self):
        tried = 0
        for one, other, pairs in alike_worlds():
            scenes = sorted(set([scene for mine, yours in pairs for scene in mine]))
            for at, (mine, yours) in enumerate(pairs):
                for place in range(len(mine)):
                    tried += 1
                    less = mine[:place] + mine[place + 1:]
                    self.taken(one, other, changed(pairs, (at, 0), less), False)
                    self.taken(one, other, changed(pairs, (at, 0), mine + (mine[place],)), False)
                for place in range(len(yours)):
                    self.taken(one, other, changed(pairs, (at, 1), yours[:place] + yours[place + 1:]), False)
                for scene in scenes:
                    if scene not in mine:
                        self.taken(one, other, changed(pairs, (at, 0), tuple(sorted(mine + (scene,)))), False)
                if len(mine) > 1:
                    self.taken(one, other, changed(pairs, (at, 0), mine[::-1]), False)
        self.assertGreater(tried, 50)

    def test_a_crowd_of_another_pair(self):
        for one, other, pairs in alike_worlds():
            for at in range(len(pairs)):
                for place in range(len(pairs)):
                    for side in (0, 1):
                        if pairs[at][side] != pairs[place][side]:
                            self.taken(one, other, changed(pairs, (at, side), pairs[place][side]), False)

    def test_pairs_to_which_no_row_leads(self):
        one = talker((("say", 0), ("go", 3), ("say", 1)))
        pairs = held(one, one, 9)[1]
        never = ((), ((0, ()),), (0,), (((), (own(2),)),))
        self.taken(one, one, pairs)
        for at in range(len(pairs) + 1):
            self.taken(one, one, pairs[:at] + (((never,), (never,)),) + pairs[at:], False)

    def test_worlds_that_are_parted(self):
        for seed in range(120):
            one, other = thrown_pair(seed)
            if held(one, other, 3000)[0] == "parts":
                pairs = []
                for row, pair in pairs_by_rows(one, other, 5):
                    if pair not in pairs:
                        pairs.append(pair)
                self.taken(one, other, tuple(pairs), False)
                like = [pair for pair in pairs if marks(one, pair[0]) == marks(other, pair[1])]
                self.taken(one, other, tuple(like), False)
                self.taken(one, other, held(one, one, 3000)[1], False)

    def test_unlike_in_done_or_stuck_alone(self):
        worlds = [talker(SAYS), talker(SAYS + (("go", 3),)), talker(SAYS + (("take", "p"),))]
        for one in worlds:
            for other in worlds:
                pairs = []
                for row, pair in pairs_by_rows(one, other, 3):
                    if pair not in pairs:
                        pairs.append(pair)
                self.taken(one, other, tuple(pairs), one == other)

    def test_things_otherwise_at_any_depth(self):
        one, other = waiting_worlds()
        pairs = held(one, other, 100)[1]
        self.taken(one, other, pairs)
        for path in paths_of(pairs):
            part = part_at(pairs, path)
            for thing in otherwise(part)[:1] + [None, Odd(), part == 1]:
                self.taken(one, other, changed(pairs, path, thing), False)
            if isinstance(part, tuple):
                self.taken(one, other, changed(pairs, path, part + (0,)), False)

    def test_anything_else(self):
        one = talker((("go", 0),))
        pair = ((begun(one),), (begun(one),))
        self.taken(one, one, (pair,))
        for thing in (("alike", (pair,)), pair, begun(one), (begun(one), begun(one)), (pair[0],), (pair + pair,), ((pair,),)):
            self.taken(one, one, thing, False)
        for thing in odd_things():
            self.taken(one, one, thing, False)
            self.taken(one, one, (thing,), False)
            self.taken(one, one, (pair, thing), False)
            self.taken(one, one, (thing, pair), False)
            self.taken(one, one, ((thing, pair[1]),), False)
            self.taken(one, one, ((pair[0], thing),), False)
            self.taken(one, one, (pair + (thing,),), False)
            self.taken(one, one, (((thing,), pair[1]),), False)
            self.taken(one, one, ((pair[0], (begun(one), thing)),), False)

    def test_none_where_crowds_are_far_larger(self):
        one = world([(("put", "o", ("plus", "o", 1)),) * 30] * 4, shared=(("o", 0),))
        self.taken(one, one, (), False)
        self.taken(one, one, (((begun(one),), (begun(one),)),), False)

    def test_a_later_crowd_that_is_far_larger(self):
        one = world([(("say", 0),) + (("put", "o", ("plus", "o", 1)),) * 30] + [(("go", 0),)] * 3, shared=(("o", 0),))
        first = crowd_of(one, (begun(one),))
        self.taken(one, one, ((first, first),), False)
        self.taken(one, one, held(one, one, 100)[1])


class ShowsParts(unittest.TestCase):
    def taken(self, one, other, row, what, expected=True):
        self.assertIs(shows_parts(one, other, row, what), expected)
        self.assertIs(shows_parts(other, one, row, what), expected)

    def test_what_is_told(self):
        parts = 0
        for seed in range(200):
            one, other = thrown_pair(seed)
            told = held(one, other, 3000)
            if told[0] == "parts":
                parts += 1
                self.taken(one, other, told[1], told[2])
                self.taken(one, one, told[1], told[2], False)
        self.assertGreater(parts, 40)

    def test_as_the_words_say(self):
        told = []
        for seed in range(120):
            one, other = thrown_pair(seed)
            events = [(hand, value) for hand in range(2) for value in range(3)]
            for row, (mine, yours) in pairs_by_rows(one, other, 3):
                for what in events + ["done", "stuck"]:
                    told.append(what in unlike(marks(one, mine), marks(other, yours)))
                    self.taken(one, other, row, what, told[-1])
        self.assertGreater(told.count(True), 100)

    def test_another_row_and_another_thing(self):
        one = talker((("say", 0), ("say", 1)), (("say", 2), ("say", 3)))
        other = talker((("say", 0), ("say", 4)), (("say", 2), ("say", 5)))
        self.assertEqual(held(one, other, 100), ("parts", ((0, 0),), (0, 1)))
        for row, what in (
            (((0, 0),), (0, 1)), (((0, 0),), (0, 4)), (((1, 2),), (1, 3)), (((1, 2),), (1, 5)),
            (((0, 0), (1, 2)), (0, 1)), (((1, 2), (0, 0)), (1, 5)),
        ):
            self.taken(one, other, row, what)
        for row, what in (
            ((), (0, 0)), ((), (1, 2)), ((), (0, 1)), (((0, 0),), (1, 2)), (((0, 0),), (0, 0)), (((0, 0),), (1, 3)),
            (((0, 0),), "done"), (((0, 0),), "stuck"), (((0, 0), (0, 1)), (0, 4)), (((0, 0), (0, 4)), "done"),
        ):
            self.taken(one, other, row, what, False)

    def test_a_row_that_leads_nowhere(self):
        one, other = talker(SAYS), talker(SAYS[:2])
        row = ((0, 0), (0, 1))
        self.taken(one, other, row, (0, 2))
        self.taken(one, other, row, "done")
        # Only one of both has the last event, so behind it there are no two crowds.
        self.taken(one, other, row + ((0, 2),), "done", False)
        self.taken(one, other, row + ((0, 2),), (0, 2), False)
        for first in ((0, 1), (1, 0), (-1, 0), (0, 5)):
            self.taken(one, other, (first,) + row, (0, 2), False)
            self.taken(one, other, (first,), (0, 2), False)
            self.taken(one, other, (first,), "done", False)

    def test_parted_on_the_way_and_behind(self):
        one = talker((("say", 0), ("say", 1)), (("say", 2),))
        other = talker((("say", 0), ("say", 1), ("say", 5)))
        self.taken(one, other, (), (1, 2))
        self.taken(one, other, ((0, 0), (0, 1)), (1, 2))
        self.taken(one, other, ((0, 0), (0, 1)), (0, 5))
        self.taken(one, other, ((0, 0), (0, 1)), "done", False)

    def test_done_and_stuck(self):
        row = ((0, 0), (0, 1), (0, 2))
        done, runs, stuck = talker(SAYS), talker(SAYS + (("go", 3),)), talker(SAYS + (("take", "p"),))
        for one, other, whats in ((done, runs, ["done"]), (runs, stuck, ["stuck"]), (done, stuck, ["done", "stuck"])):
            for what in ("done", "stuck"):
                self.taken(one, other, row, what, what in whats)
                for at in range(3):
                    self.taken(one, other, row[:at], what, False)
                self.taken(one, one, row, what, False)

    def test_done_and_stuck_whatever_else(self):
        one, other = talker((("say", 0),)), talker((("take", "p"),))
        self.taken(one, other, (), (0, 0))
        self.taken(one, other, (), "stuck")
        self.taken(one, other, (), "done", False)

    def test_rows_of_any_kind(self):
        one, other = talker(SAYS), talker(SAYS[:1] + (("say", 5),))
        row = ((0, 0),)
        self.taken(one, other, row, (0, 1))
        for thing in odd_things() + [
            [(0, 0)], ([0, 0],), ((False, 0),), ((0, False),), ((0, 0, 0),), ((0,),), (((0, 0),),), (None,),
            ((0, 0), None), ("done",), ((0, "0"),), ((0, (0,)),), ((0, 0j),), (Odd(),), ((Odd(), 0),), ((0, Odd()),),
        ]:
            self.taken(one, other, thing, (0, 1), False)
            self.taken(one, other, thing, "done", False)
            self.taken(one, other, (thing,), (0, 1), False)
            self.taken(one, other, row + (thing,), (0, 1), False)
        self.taken(one, other, (0, 0), (0, 1), False)

    def test_whats_of_any_kind(self):
        one, other = talker((("say", 0), ("say", 1))), talker((("say", 0),))
        row = ((0, 0),)
        self.taken(one, other, row, (0, 1))
        self.taken(one, other, row, "done")
        for thing in odd_things() + [
            "", "don", "Done", "DONE", "stuck ", b"done", b"stuck", ["done"], ("done",), "all", [0, 1], (0, True), (False, 1),
            (False, True), (0,), (0, 1, 0), ((0, 1),), (0, "1"), (0, None), (0, 1j), (Odd(), 1), (0, Odd()), (0, (1,)), (0, [1]),
            ("done", 1), 1, 0, -1, ("parts", row, (0, 1)),
        ]:
            self.taken(one, other, row, thing, False)
            # Here both ends are unlike, and no event is.
            self.taken(talker((("put", "o", 1),)), talker((("take", "p"),)), (), thing, False)

    def test_one_that_is_a_truth(self):
        one, other = talker((("say", 1),), (("say", 1),)), talker((("say", 2),), (("say", 1),))
        self.taken(one, other, (), (0, 1))
        self.taken(one, other, ((1, 1),), (0, 1))
        for row in (((True, 1),), ((1, True),), ((True, True),)):
            self.taken(one, other, row, (0, 1), False)
        for what in ((False, 1), (0, True), (False, True)):
            self.taken(one, other, (), what, False)

    def test_long_rows(self):
        one, other = talker((("say", 0), ("go", 0))), talker((("say", 0), ("go", 0)), (("say", 9),))
        self.taken(one, other, ((0, 0),) * 70, (1, 9))
        self.taken(one, other, ((0, 0),) * 70, (0, 0), False)
        self.taken(one, one, ((0, 0),) * 70, (1, 9), False)

    def test_told_again(self):
        one, other = thrown_pair(1)
        told = held(one, other, 3000)
        self.assertEqual(told[0], "parts")
        self.assertEqual(shows_parts(one, other, told[1], told[2]), shows_parts(one, other, told[1], told[2]))


if __name__ == "__main__":
    unittest.main()
