"""Point [3], over the whole program: (a) step by step, (b) to (g) by several worlds and by worlds by number."""

import itertools
import unittest

from calledroom.booklooks import shows_book, shows_never, shows_stuck
from calledroom.books import book
from calledroom.desk import Desk
from calledroom.errors import NoManner, NoPasses, NoRooms, NoStep
from calledroom.heldlooks import shows_alike, shows_parts
from calledroom.holding import held
from calledroom.losing import lost
from calledroom.manners import exchanged
from calledroom.ofpasses import of_passes
from calledroom.ofrooms import of_rooms
from calledroom.promiselooks import shows_promise
from calledroom.promises import broken_way
from calledroom.reading import read_world
from calledroom.rings import holds, rings, shows_ring
from calledroom.scenes import begun, stands
from calledroom.showing import show_world
from calledroom.steps import may_step, stepped, walked
from calledroom.stuckness import stuck_way
from calledroom.sums import value_of
from calledroom.worlds import is_world
from tests.helper import roomy_world, thrown_world
from tests.talking import marks, pairs_by_rows, thrown_pair, thrown_talk, unlike

BUFFER = """room buffer {}
thing count 0
thing item 0
bell full row
bell gone row
deed get
unless 2 ! count
wait full 0
put count 0
call gone
tell item
deed put
unless 2 count
wait gone 0
put item given
put count 1
call full
hand
thing m 0
do m buffer get 0
say m
do m buffer get 0
say m
hand
do - buffer put 4
do - buffer put 6"""

# Who eats takes both forks, each a room, one within a deed of the other.
FORKS = """room a {}
deed both
do - b one 0
deed one
tell 1
room b {}
deed both
do - a one 0
deed one
tell 1
hand
do - a both 0
say 1
hand
do - b both 0
say 2"""

DOOR = """pass door 1
open o 0
room seen {}
thing many 0
bell end row
deed count
put many + many 1
tell many
call end
deed wait
unless 2 ! many
wait end 0
tell many
hand
thing m 0
take door
do m seen count 0
put o m
say o
give door
hand
thing m 0
take door
do m seen wait 0
give door
say m"""

TEXTS = [text.replace("{}", manner) for text in (BUFFER, FORKS, DOOR) for manner in ("at-once", "when-free")]


def named_worlds():
    """The worlds of all texts, which are read anew each time."""
    return [read_world(text) for text in TEXTS]


def worlds_by_number(many):
    return [make(seed) for seed in range(many) for make in (thrown_world, thrown_talk, roomy_world)]


def made_of_others(one):
    """All worlds that are made of this one where it isn't refused."""
    found = []
    for make in (of_passes, of_rooms):
        try:
            found.append(make(one))
        except (NoPasses, NoRooms):
            pass
    return found


def hands_in_lines(scene):
    """Each hand that stands in a row, late or at a bell, as often as it does."""
    hands = [hand for value, row in scene[1] for hand in row]
    for values, within, row, late, bells in scene[0]:
        hands += list(row) + list(late) + [hand for line in bells for turn, hand in line]
    return hands


def went_in_order(before, after):
    """Whether the one line came of the other by the first going, one coming behind all, or both."""
    return after[:len(before)] == before or after[:len(before) - 1] == before[1:]


class OnePlace(unittest.TestCase):
    def test_each_hand_stands_in_one_place(self):
        seen = set()
        for seed in range(60):
            one = thrown_world(seed)
            for scene in book(one, 3000)[1]:
                lines = hands_in_lines(scene)
                self.assertEqual(len(lines), len(set(lines)))
                for hand in range(len(one[3])):
                    place = stands(one, scene, hand)[0]
                    seen.add(place)
                    self.assertEqual(place in ("pass", "row", "late", "bell"), hand in lines)
                    self.assertEqual(hand in may_step(one, scene), place in ("out", "within", "called"))
        self.assertEqual(sorted(seen), ["bell", "called", "done", "late", "out", "pass", "row", "within"])

    def test_who_is_within_is_at_a_deed_there(self):
        for seed in range(60):
            for scene in book(thrown_world(seed), 3000)[1]:
                for number, state in enumerate(scene[0]):
                    if state[1] == -1:
                        self.assertEqual((state[2], state[3]), ((), ()))
                    else:
                        self.assertIn(number, [frame[0] for frame in scene[3][state[1]][1]])


class EachStep(unittest.TestCase):
    def each_step(self):
        for seed in range(60):
            one = thrown_world(seed)
            for scene in book(one, 3000)[1]:
                for hand in may_step(one, scene):
                    yield one, scene, hand, stepped(one, scene, hand)[0]

    def test_rooms_are_changed_by_the_one_within_alone(self):
        for one, before, hand, after in self.each_step():
            for old, new in zip(before[0], after[0]):
                if (old[0], old[3], old[4]) != (new[0], new[3], new[4]) or old[2] != new[2][:len(old[2])]:
                    self.assertEqual(old[1], hand)
                if old[1] != new[1]:
                    self.assertIn(old[1], (hand, -1))

    def test_who_comes_in(self):
        called = 0
        for one, before, hand, after in self.each_step():
            for old, new in zip(before[0], after[0]):
                values, within, row, late, bells = old
                if within == new[1]:
                    continue
                if within == -1:
                    self.assertEqual(new[1], hand)
                elif hand in new[3]:
                    called += 1
                    self.assertIn(new[1], [line[0][1] for line in bells if line])
                    self.assertEqual((new[2], new[3]), (row, late + (hand,)))
                elif late:
                    self.assertEqual((new[1], new[2], new[3]), (late[0], row, late[1:]))
                elif row:
                    self.assertEqual((new[1], new[2], new[3]), (row[0], row[1:], ()))
                else:
                    self.assertEqual((new[1], new[2], new[3]), (-1, (), ()))
        self.assertGreater(called, 10)

    def test_lines_are_let_on_in_order(self):
        for one, before, hand, after in self.each_step():
            for old, new in zip(before[1], after[1]):
                self.assertTrue(went_in_order(old[1], new[1]))
            for old, new in zip(before[0], after[0]):
                self.assertTrue(went_in_order(old[2], new[2]))
                self.assertTrue(went_in_order(old[3], new[3]))
                for line in new[4]:
                    self.assertEqual([turn for turn, waiter in line], sorted([turn for turn, waiter in line]))

    def test_other_hands_stay_where_they_are_in_their_programs(self):
        for one, before, hand, after in self.each_step():
            for other in range(len(one[3])):
                if other != hand:
                    self.assertEqual(before[3][other], after[3][other])

    def test_begun_is_the_first(self):
        for seed in range(60):
            one = thrown_world(seed)
            self.assertEqual(book(one, 3000)[1][0], begun(one))


class Promises(unittest.TestCase):
    """(b)"""

    def leaves(self, one, number):
        """The values of a room behind each step that leaves it, and in each scene in which nobody is within."""
        for scene in book(one, 5000)[1]:
            if scene[0][number][1] == -1:
                yield scene[0][number][0]
            for hand in may_step(one, scene):
                after = stepped(one, scene, hand)[0]
                if scene[0][number][1] == hand and after[0][number][1] != hand:
                    yield after[0][number][0]

    def kept(self, one, number, promise):
        words = [word for word, value in one[0][number][2]]
        return all([value_of(promise, dict(zip(words, values)), {}) for values in self.leaves(one, number)])

    def test_promises(self):
        told = []
        for one in named_worlds() + worlds_by_number(25):
            for number, place in enumerate(one[0]):
                for word, value in place[2]:
                    for promise in (word, ("less", word, 2), ("not", word), ("same", word, value)):
                        sort, way = broken_way(one, number, promise, 5000)
                        told.append(sort)
                        self.assertEqual(sort == "kept", self.kept(one, number, promise))
                        if sort == "way":
                            words = [word for word, value in place[2]]
                            values = walked(one, way)[0][0][number][0]
                            self.assertEqual(value_of(promise, dict(zip(words, values)), {}), 0)
                        taken = shows_promise(one, number, promise, (1,) * len(place[3]))
                        self.assertFalse(taken and sort != "kept")
        self.assertGreater(told.count("kept"), 20)
        self.assertGreater(told.count("way"), 20)


class BooksAndWays(unittest.TestCase):
    """(c)"""

    def test_books_and_ways(self):
        told = []
        for one in named_worlds() + worlds_by_number(20):
            for each in [one] + made_of_others(one):
                scenes = book(each, 20000)[1]
                self.assertTrue(shows_book(each, scenes))
                sort, way = stuck_way(each, 20000)
                told.append(sort)
                self.assertEqual(sort == "never", shows_never(each, scenes))
                if sort == "way":
                    self.assertTrue(shows_stuck(each, way))
        self.assertEqual(set(told), {"never", "way"})

    def test_no_way_is_less(self):
        for one in named_worlds() + worlds_by_number(12):
            sort, way = stuck_way(one, 20000)
            if sort == "way" and len(one[3]) ** len(way) < 3000:
                hands = range(len(one[3]))
                for size in range(len(way) + 1):
                    for weaving in itertools.product(hands, repeat=size):
                        self.assertFalse((size, weaving) < (len(way), way) and shows_stuck(one, weaving))

    def test_begun_to_done(self):
        for text in TEXTS:
            one = read_world(text)
            for first in (0, 1):
                scene, events, steps = begun(one), [], 0
                while may_step(one, scene):
                    # Each in its turn, so that both come to all that they do.
                    hands = may_step(one, scene)
                    scene, event = stepped(one, scene, hands[(first + steps) % len(hands)])
                    events += [event] * (event is not None)
                    steps += 1
                places = {stands(one, scene, hand)[0] for hand in range(len(one[3]))}
                self.assertTrue(places == {"done"} or stuck_way(one, 5000)[0] == "way")
                if text.startswith("room buffer"):
                    self.assertEqual((places, events), ({"done"}, [(0, 4), (0, 6)]))


class Rings(unittest.TestCase):
    """(d)"""

    def test_rings(self):
        found = 0
        for one in named_worlds() + worlds_by_number(20):
            for scene in book(one, 5000)[1]:
                told = rings(one, scene)
                for ring in told:
                    found += 1
                    self.assertTrue(shows_ring(one, scene, ring))
                    self.assertLessEqual({hand for hand, name in ring}, set(lost(one, scene, 20000)))
                    for (hand, name), (other, after) in zip(ring, ring[1:] + ring[:1]):
                        self.assertEqual(stands(one, scene, hand), ("row", name))
                        self.assertIn(name, holds(one, scene, other))
                self.assertEqual(told, self.by_words(one, scene))
        self.assertGreater(found, 20)

    def by_words(self, one, scene):
        """All rings, each tuple of hands tried."""
        hands = range(len(one[3]))
        waits = {hand: stands(one, scene, hand)[1] for hand in hands if stands(one, scene, hand)[0] == "row"}
        found = []
        for size in range(1, len(one[3]) + 1):
            for ring in itertools.permutations([hand for hand in hands if hand in waits], size):
                closed = all([waits[hand] in holds(one, scene, after) for hand, after in zip(ring, ring[1:] + ring[:1])])
                if ring[0] == min(ring) and closed:
                    found.append(tuple([(hand, waits[hand]) for hand in ring]))
        return tuple(sorted(found))


class Alike(unittest.TestCase):
    """(e) and (f)"""

    def told(self, one, other):
        told = held(one, other, 50000)
        if told[0] == "alike":
            self.assertTrue(shows_alike(one, other, told[1]))
        else:
            self.assertTrue(shows_parts(one, other, told[1], told[2]))
        return told

    def test_rows(self):
        for seed in range(60):
            one, other = thrown_pair(seed)
            told = self.told(one, other)
            for row, (mine, yours) in pairs_by_rows(one, other, 3):
                whats = unlike(marks(one, mine), marks(other, yours))
                less = told[0] == "alike" or (len(row), row) < (len(told[1]), told[1])
                self.assertFalse(whats and less)

    def test_made_of_others(self):
        many = 0
        for one in named_worlds() + worlds_by_number(25):
            for made in made_of_others(one):
                many += 1
                self.assertEqual(self.told(one, made)[0], "alike")
                for again in made_of_others(made):
                    self.assertEqual(held(one, again, 50000)[0], "alike")
        self.assertGreater(many, 40)

    def test_the_other_manner(self):
        told = []
        for one in named_worlds() + worlds_by_number(25):
            for number in range(len(one[0])):
                try:
                    told.append(self.told(one, exchanged(one, number))[0])
                except NoManner:
                    told.append("no manner")
        self.assertEqual(set(told), {"alike", "parts", "no manner"})

    def test_what_is_said_can_be_said_there_too(self):
        for one in named_worlds():
            for made in made_of_others(one):
                rows = [row for row, pair in pairs_by_rows(one, made, 2)]
                self.assertEqual(rows, [row for row, pair in pairs_by_rows(made, one, 2)])


class Texts(unittest.TestCase):
    """(g)"""

    def test_written_and_read(self):
        for text in TEXTS:
            self.assertEqual(show_world(read_world(text)), text)
            self.assertTrue(is_world(read_world(text)))
        for one in worlds_by_number(25):
            self.assertEqual(read_world(show_world(one)), one)

    def test_the_desk_answers_as_all_these_do(self):
        for text in TEXTS:
            one, desk = read_world(text), Desk(text)
            self.assertEqual(desk.say("book 2000"), str(len(book(one, 2000)[1])))
            self.assertEqual(desk.say("stuck 2000").split(" ")[0], stuck_way(one, 2000)[0])
            for number, place in enumerate(one[0]):
                self.assertEqual(desk.say(f"manner 2000 {place[0]}").split(" ")[0], held(one, exchanged(one, number), 2000)[0])
                self.assertEqual(desk.say(f"promise 2000 {place[0]} 1"), broken_way(one, number, 1, 2000)[0])
            weaving = ()
            for hand in (0, 1) * 30:
                took = desk.say(f"run {hand} 1")
                try:
                    walked(one, weaving + (hand,))
                except NoStep:
                    self.assertEqual(took, "0")
                else:
                    self.assertEqual(took, "1")
                    weaving += (hand,)
                scene, events = walked(one, weaving)
                self.assertEqual(desk.say("said"), " ".join([f"{who}:{value}" for who, value in events]) or "-")
                self.assertEqual(desk.say("hands"), " ".join([str(who) for who in may_step(one, scene)]) or "-")


if __name__ == "__main__":
    unittest.main()
