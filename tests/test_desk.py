"""Point [24]'s desk, and [3](g) and [2] for it."""

import unittest

from calledroom.books import book
from calledroom.desk import Desk
from calledroom.errors import NoLine, NoManner, NoText, RoomError
from calledroom.holding import held
from calledroom.manners import exchanged
from calledroom.promises import broken_way
from calledroom.rings import rings
from calledroom.scenes import stands
from calledroom.showing import show_world
from calledroom.steps import may_step, walked
from calledroom.stuckness import stuck_way
from calledroom.worlds import is_world
from tests.helper import Dice, Odd, odd_things, room, thrown_world, world
from tests.talking import thrown_talk
from tests.test_manners import UNLESS_CALLED, WAIT, rooms_of, woken

STORE = """room store at-once
thing count 0
bell some row
deed get
unless 2 = count 0
wait some 0
put count - count 1
tell count
deed more
put count + count given
call some
hand
thing left 0
do left store get 0
say left
hand
do - store more 3"""


def desk_of(one):
    return Desk(show_world(one))


class Answers(unittest.TestCase):
    def asked(self, desk, *lines):
        """Each line's answer, told in pairs with the line."""
        for line, answer in lines:
            self.assertEqual(desk.say(line), answer, line)

    def test_begun_to_done(self):
        self.asked(
            Desk(STORE), ("hands", "0 1"), ("said", "-"), ("stand 0", "out"), ("stand 1", "out"), ("room store", "0 - - - -"),
            ("run 0 1", "1"), ("stand 0", "within store"), ("room store", "0 0 - - -"), ("run 1 1", "1"), ("stand 1", "row store"),
            ("room store", "0 0 1 - -"), ("hands", "0"), ("run 0 5", "2"), ("stand 0", "bell store some"), ("room store", "0 1 - - 0"),
            ("run 0 5", "0"), ("run 1 2", "2"), ("stand 1", "late store"), ("stand 0", "within store"), ("room store", "3 0 - 1 -"),
            ("run 1 1", "0"), ("run 0 2", "2"), ("run 0 2000", "2"), ("said", "0:2"), ("hands", "1"), ("stand 0", "done"),
            ("run 1 2000", "1"), ("hands", "-"), ("stand 1", "done"), ("room store", "2 - - - -"), ("rings", "-"), ("world", STORE),
        )

    def test_called(self):
        desk = Desk(STORE.replace("at-once", "when-free"))
        self.asked(
            desk, ("run 0 3", "3"), ("run 1 3", "3"), ("stand 0", "called store"), ("hands", "0 1"), ("room store", "3 1 - - -"),
            ("run 0 9", "1"), ("stand 0", "row store"), ("room store", "3 1 0 - -"), ("run 1 1", "1"), ("stand 0", "within store"),
            ("stand 1", "done"), ("hands", "0"), ("run 0 9", "4"), ("said", "0:2"),
        )

    def test_stand_at_a_pass(self):
        desk = Desk("pass p 0\nhand\ntake p\nsay 1\nhand\ngive p")
        self.asked(
            desk, ("run 0 9", "1"), ("stand 0", "pass p"), ("hands", "1"), ("run 1 9", "1"), ("stand 0", "out"), ("stand 1", "done"),
            ("hands", "0"), ("run 0 9", "1"), ("stand 0", "done"), ("hands", "-"), ("said", "0:1"),
        )

    def test_run(self):
        desk = Desk("hand\ngo 0\nhand\nsay 1\nsay 2")
        self.asked(desk, ("run 0 1", "1"), ("run 0 2000", "2000"), ("run 1 1", "1"), ("run 1 2000", "1"), ("run 1 1", "0"), ("said", "1:1 1:2"))

    def test_back(self):
        desk = Desk("hand\nsay 1\nsay 2\nhand\nsay 3")
        self.asked(desk, ("back", "none"), ("back", "none"), ("run 0 1", "1"), ("run 1 9", "1"), ("run 0 9", "1"), ("said", "0:1 1:3 0:2"))
        self.asked(desk, ("back", "done"), ("said", "0:1 1:3"), ("hands", "0"), ("back", "done"), ("said", "0:1"), ("hands", "0 1"))
        self.asked(desk, ("run 0 9", "1"), ("said", "0:1 0:2"), ("back", "done"), ("back", "done"), ("said", "-"), ("back", "none"), ("hands", "0 1"))

    def test_back_as_often_as_there_were_steps(self):
        desk = Desk("hand\nthing m 0\nput m + m 1\nsay m\ngo 0")
        first = desk.say("run 0 2000")
        self.assertEqual(first, "2000")
        for step in range(2000):
            self.assertEqual(desk.say("back"), "done")
        self.asked(desk, ("back", "none"), ("said", "-"), ("stand 0", "out"))

    def test_a_run_of_none_is_no_step_to_take_back(self):
        desk = Desk("pass p 0\nhand\ntake p\nhand\nsay 1")
        self.asked(desk, ("run 0 1", "1"), ("run 0 1", "0"), ("run 0 5", "0"), ("back", "done"), ("back", "none"))

    def test_room(self):
        deeds = {"c": (("call", "x"), ("tell", 0)), "d": (("wait", "x", 0),), "e": (("wait", "y", ("minus", 9, "given")),), "f": (("tell", 0),)}
        rooms = [room("r", deeds, "at once", (("t", 4), ("u", 7)), (("x", "row"), ("y", "turns"), ("z", "row"))), room("s", {"d": (("tell", 0),)})]
        one = world([(("do", None, "r", deed, given),) for deed, given in (("e", 1), ("e", 2), ("d", 0), ("c", 0))], rooms)
        desk = desk_of(one)
        self.asked(
            desk, ("room r", "4 7 - - - - - -"), ("room s", "- - -"), ("run 0 2", "2"), ("room r", "4 7 - - - - 0 -"), ("run 1 2", "2"),
            ("room r", "4 7 - - - - 1.0 -"), ("run 2 2", "2"), ("room r", "4 7 - - - 2 1.0 -"), ("run 3 2", "2"),
            ("room r", "4 7 2 - 3 - 1.0 -"), ("room s", "- - -"),
        )

    def test_rows_by_points(self):
        one = world([(("do", None, "r", "d", 0),)] * 4, [room("r", {"d": (("tell", 0),)})])
        desk = desk_of(one)
        self.asked(desk, ("run 2 1", "1"), ("run 3 1", "1"), ("run 0 1", "1"), ("run 1 1", "1"), ("room r", "2 3.0.1 -"))

    def test_late_by_points(self):
        deeds = {"c": (("call", "x"),), "v": (("wait", "y", 0),), "w": (("wait", "x", 0), ("call", "y"))}
        one = world([(("do", None, "r", deed, 0),) for deed in "wvc"], [room("r", deeds, "at once", (), (("x", "row"), ("y", "row")))])
        self.asked(desk_of(one), ("run 0 2", "2"), ("run 1 2", "2"), ("run 2 2", "2"), ("room r", "0 - 2 - 1"), ("run 0 1", "1"), ("room r", "1 - 2.0 - -"))

    def test_rings(self):
        idle = (("tell", 0),)
        rooms = [
            room("a", {"d": (("do", None, "b", "e", 0),), "e": idle}), room("b", {"d": (("do", None, "a", "e", 0),), "e": idle}),
            room("c", {"d": (("do", None, "c", "e", 0),), "e": idle}),
        ]
        one = world([(("do", None, name, "d", 0),) for name in "bacc"], rooms)
        desk = desk_of(one)
        self.asked(desk, ("rings", "-"), ("run 0 1", "1"), ("run 1 1", "1"), ("run 0 1", "1"), ("rings", "-"), ("run 1 1", "1"), ("rings", "0:a.1:b"))
        self.asked(desk, ("run 2 2", "2"), ("rings", "0:a.1:b 2:c"), ("run 3 1", "1"), ("rings", "0:a.1:b 2:c"), ("back", "done"), ("back", "done"))
        self.asked(desk, ("rings", "0:a.1:b"), ("hands", "2 3"))

    def test_stuck(self):
        getters = STORE.replace("do - store more 3", "do - store get 3")
        self.asked(Desk(getters), ("stuck 2000", "way 0.0.0.1.1.1"), ("stuck 1", "open"), ("stuck 5", "open"))
        self.asked(Desk(STORE), ("stuck 2000", "never"), ("stuck 3", "open"))
        self.asked(Desk("pass p 0\nhand\ntake p"), ("stuck 1", "open"), ("stuck 2", "way 0"))
        self.asked(Desk("hand\nsay 1"), ("stuck 1", "open"), ("stuck 2", "never"))
        self.asked(Desk("hand\ngo 0"), ("stuck 1", "never"))

    def test_promise(self):
        self.asked(
            Desk(STORE), ("promise 1000 store < count 4", "kept"), ("promise 1000 store < count 3", "way 1.1.1.1"), ("promise 3 store < count 4", "open"),
            ("promise 1000 store count", "way -"), ("promise 1000 store 0", "way -"), ("promise 1000 store 1", "kept"), ("promise 3 store count", "open"),
            ("promise 2000 store & < count 4 ! < 9 count", "kept"), ("promise 2000 store ! ! ! ! 1", "kept"),
        )
        self.asked(Desk("room r at-once\ndeed d\ntell 1\nhand\nsay 1"), ("promise 2 r 1", "kept"), ("promise 2 r 0", "way -"))

    def test_manner(self):
        self.asked(Desk(STORE), ("manner 1000 store", "alike"), ("manner 3 store", "open"), ("manner 1 store", "open"))
        for manner in ("at once", "when free"):
            deed = (("unless", ("not", "f"), 3), WAIT, ("tell", "t"))
            says = (("say", 1), ("say", 2))
            self.asked(desk_of(woken(deed, manner, (), (("say", "m"),))), ("manner 999 r", "parts - 0:1"))
            self.asked(desk_of(woken(deed, manner, says, (("say", "m"),))), ("manner 999 r", "parts 0:1 0:2 0:1"), ("manner 2 r", "open"))
            deed = (UNLESS_CALLED, WAIT, ("unless", "t", 5), ("go", 3), ("go", 4))
            self.asked(desk_of(woken(deed, manner)), ("manner 999 r", "parts - done"))
            self.asked(desk_of(woken(deed, manner, says)), ("manner 999 r", "parts 0:1 0:2 done"))
            deed = (UNLESS_CALLED, WAIT, ("unless", "t", 4), WAIT, ("go", 4))
            self.asked(desk_of(woken(deed, manner)), ("manner 999 r", "parts - stuck"))
            self.asked(desk_of(woken(deed, manner, says[:1])), ("manner 999 r", "parts 0:1 stuck"))

    def test_no_manner(self):
        rooms = [room(name, {"d": (("all", "x"),) if name == "b" else (("tell", 0),)}, "when free", (), (("x", "row"),)) for name in "abc"]
        desk = desk_of(world([(("say", 1),)], rooms))
        self.asked(desk, ("manner 1 b", "no manner"), ("manner 2000 b", "no manner"), ("manner 2000 a", "alike"), ("manner 2000 c", "alike"))

    def test_book(self):
        many = len(book(desk_world(STORE), 2000)[1])
        self.asked(Desk(STORE), ("book 2000", str(many)), (f"book {many}", str(many)), (f"book {many - 1}", "open"), ("book 1", "open"))
        self.asked(Desk("hand\ngo 0"), ("book 1", "1"))

    def test_of_the_world_whatever_the_weaving(self):
        desk = Desk(STORE)
        lines = ("stuck 2000", "stuck 4", "promise 2000 store < count 3", "promise 2000 store ! count", "manner 2000 store", "book 2000", "world")
        first = [desk.say(line) for line in lines]
        for step in ("run 0 2", "run 1 1", "run 0 1", "run 1 9", "run 0 9", "run 1 9", "back"):
            desk.say(step)
            self.assertEqual([desk.say(line) for line in lines], first)

    def test_two_desks(self):
        one, other = Desk(STORE), Desk(STORE)
        self.asked(one, ("run 0 3", "3"))
        self.asked(other, ("stand 0", "out"), ("back", "none"), ("run 1 9", "4"), ("room store", "3 - - - -"))
        self.asked(one, ("stand 0", "bell store some"), ("room store", "0 - - - 0"), ("back", "done"), ("stand 0", "within store"))
        self.asked(other, ("said", "-"), ("hands", "0"), ("stand 1", "done"))


def desk_world(text):
    return Desk(text).world


class ByFunctions(unittest.TestCase):
    """The desk's answers, held against what the functions tell."""

    def test_worlds_by_number(self):
        for seed in range(60):
            for one in (thrown_world(seed), thrown_talk(seed)):
                self.followed(one, Dice(seed))

    def followed(self, one, dice):
        desk, weaving = desk_of(one), ()
        for line in range(25):
            hand, many = dice.throw(len(one[3])), 1 + dice.throw(3)
            if dice.throw(4) == 0:
                self.assertEqual(desk.say("back"), "done" if weaving else "none")
                weaving = weaving[:-1]
            else:
                took = int(desk.say(f"run {hand} {many}"))
                self.assertTrue(took == many or hand not in may_step(one, walked(one, weaving + (hand,) * took)[0]))
                weaving += (hand,) * took
            self.answered(one, desk, weaving)
        for number, place in enumerate(one[0]):
            self.asked_of_room(one, desk, number, place[0])
        told = stuck_way(one, 2000)
        self.assertEqual(desk.say("stuck 2000"), "never" if told[0] == "never" else "way " + ".".join(map(str, told[1])))
        self.assertEqual(desk.say("book 2000"), str(len(book(one, 2000)[1])))
        self.assertEqual(desk.say("world"), show_world(one))

    def answered(self, one, desk, weaving):
        scene, events = walked(one, weaving)
        self.assertEqual(desk.say("said"), " ".join([f"{hand}:{value}" for hand, value in events]) or "-")
        self.assertEqual(desk.say("hands"), " ".join(map(str, may_step(one, scene))) or "-")
        for hand in range(len(one[3])):
            self.assertEqual(desk.say(f"stand {hand}"), " ".join(stands(one, scene, hand)))
        for place, (values, within, row, late, bells) in zip(one[0], scene[0]):
            lines = [row, late] + [[hand for turn, hand in line] for line in bells]
            words = list(map(str, values)) + [str(within).replace("-1", "-")] + [".".join(map(str, line)) or "-" for line in lines]
            self.assertEqual(desk.say(f"room {place[0]}"), " ".join(words))
        shown = [".".join([f"{hand}:{name}" for hand, name in ring]) for ring in rings(one, scene)]
        self.assertEqual(desk.say("rings"), " ".join(shown) or "-")

    def asked_of_room(self, one, desk, number, name):
        for text, promise in (("< t 2", ("less", "t", 2)), ("t", "t"), ("! t", ("not", "t"))):
            told = broken_way(one, number, promise, 2000)
            self.assertEqual(desk.say(f"promise 2000 {name} {text}"), "kept" if told[0] == "kept" else "way " + (".".join(map(str, told[1])) or "-"))
        try:
            told = held(one, exchanged(one, number), 2000)
        except NoManner:
            self.assertEqual(desk.say(f"manner 2000 {name}"), "no manner")
        else:
            self.assertEqual(desk.say(f"manner 2000 {name}").split(" ")[0], told[0])


LINES = (
    "run 0 1", "back", "hands", "stand 0", "said", "room a", "rings", "stuck 1", "promise 1 a t", "promise 1 a + t 1", "manner 1 a",
    "book 1", "world",
)


class NoLines(unittest.TestCase):
    def setUp(self):
        one = rooms_of("at once", "when free")
        self.assertTrue(is_world(one))
        self.desk = desk_of(one)
        self.desk.say("run 0 2")

    def state(self):
        return [self.desk.say(line) for line in ("hands", "stand 0", "said", "room a", "room b", "rings", "world")]

    def refused(self, *lines):
        before = self.state()
        for line in lines:
            with self.assertRaises(NoLine) as caught:
                self.desk.say(line)
            self.assertIsInstance(caught.exception, RoomError)
        self.assertEqual(self.state(), before)
        self.assertEqual((self.desk.say("back"), self.desk.say("run 0 1")), ("done", "1"))

    def test_lines_that_are_some(self):
        for line in LINES:
            self.assertIsInstance(self.desk.say(line), str)

    def test_unknown_words(self):
        self.refused("", " ", "x", "walk 0 1", "RUN 0 1", "Run 0 1", "runs 0 1", "ru 0 1", "Back", "hand", "stands 0", "lost 5", "open 5", "held 5", "\n", "-")

    def test_words_too_few_or_too_many(self):
        for line in LINES:
            words = line.split(" ")
            for at in range(1, len(words)):
                self.refused(" ".join(words[:at]))
            for more in ("0", "1", "a", "t", "-", "+", ""):
                self.refused(f"{line} {more}")

    def test_blanks(self):
        for line in LINES:
            self.refused(" " + line, line + " ", line + "\n", "\n" + line, line + "\t", "\ufeff" + line, line + "\r")
            if " " in line:
                for blank in ("  ", "\t", "\u00a0", "\n", "\u3000", "_", ""):
                    self.refused(line.replace(" ", blank, 1), blank.join(line.rsplit(" ", 1)))

    def test_numbers(self):
        bad = ("0", "2001", "9999", "12345", "1" * 5000, "01", "001", "+1", "-1", "1.0", "1_0", "\u0661", "\u00b2", "\uff11", "x", "-", "", "0x1", "1e3")
        for number in bad:
            self.refused(f"run 0 {number}", f"stuck {number}", f"promise {number} a t", f"manner {number} a", f"book {number}")
        for number in ("1", "2", "9", "10", "999", "1999", "2000"):
            for line in (f"run 0 {number}", f"stuck {number}", f"promise {number} a t", f"manner {number} a", f"book {number}"):
                self.assertIsInstance(self.desk.say(line), str)

    def test_hands(self):
        for hand in ("1", "2", "9", "10", "12345", "1" * 5000, "00", "+0", "-0", "-1", "\u0660", "x", "-", "", "0.0"):
            self.refused(f"run {hand} 1", f"stand {hand}")
        four = desk_of(world([(("say", 1),)] * 4))
        for hand in "0123":
            self.assertEqual((four.say(f"stand {hand}"), four.say(f"run {hand} 2000")), ("out", "1"))
        for line in ("stand 4", "run 4 1", "stand 03", "run 00 1"):
            self.assertRaises(NoLine, four.say, line)

    def test_rooms(self):
        for name in ("c", "A", "ab", "", "-", "0", "p", "o", "t", "d", "x", "a\n", "abcdefghi"):
            self.refused(f"room {name}", f"promise 1 {name} t", f"manner 1 {name}")

    def test_promises(self):
        sums = (
            "", "given", "o", "x", "d", "p", "u", "? x", "& t ? x", "+ t given", "+ t", "t t", "10", "T", "-1", "! ! ! ! ! t", "+ 1 + 1 + 1 + 1 + 1 t",
            "* t 1", "plus t 1", "+  t 1", " t", "t ", "! " * 2000 + "t", "? t", "(t)", "\u0661",
        )
        for text in sums:
            self.refused(f"promise 1 a {text}")
        for text in ("t", "0", "9", "! t", "+ t 1", "! ! ! ! t", "+ 1 + 1 + 1 + 1 t"):
            self.assertIsInstance(self.desk.say(f"promise 9 a {text}"), str)

    def test_odd_things(self):
        things = [thing for thing in odd_things()]
        things += [b"back", ["back"], ("back",), {"back": 1}, {"back"}, 0, 1, True, None, ("run", 0, 1), ["run 0 1"], Odd(), Odd]
        self.refused(*things)


class NoTexts(unittest.TestCase):
    def test_texts(self):
        for text, row in (("", 0), ("hand", 1), ("hand\nsay 1\n", 2), ("hand\nsay x", 2), ("hand\nsay 1 1", 1), ("pass p 1\nhand\ntake q", 3)):
            with self.assertRaises(NoText) as caught:
                Desk(text)
            self.assertEqual(caught.exception.row, row)

    def test_odd_things(self):
        for thing in odd_things():
            if not isinstance(thing, str):
                with self.assertRaises(NoText) as caught:
                    Desk(thing)
                self.assertEqual(caught.exception.row, 0)


if __name__ == "__main__":
    unittest.main()
