"""Point [23]'s read_world, and [3](g) and [2] for it."""

import unittest

from calledroom.errors import NoText, RoomError
from calledroom.manners import exchanged
from calledroom.ofrooms import of_rooms
from calledroom.reading import read_world
from calledroom.showing import show_world
from calledroom.worlds import is_world
from tests.helper import Odd, nested, odd_things, room, roomy_world, thrown_world, world
from tests.talking import thrown_talk

# A text that has each sort of row, and a row of each kind in its programs.
WHOLE = """pass p 1
pass q 0
open o 5
room r when-free
thing t 0
thing u 9
bell x row
bell y turns
deed d
put t given
unless 3 ? x
go 4
do t s f t
do - s f 3
wait y + t 1
call x
all x
tell ! t
deed e
tell 1
room s at-once
deed f
tell 0
hand
thing m 0
thing n 1
put m - o 1
unless 10 = m o
go 0
do m r d o
do - r e < m 2
take p
give q
pass p q
pass p p
say & m n
hand
say 3""".split("\n")

# How a text may begin so that each sort is the last one.
BEGINNINGS = {
    "begin": (),
    "pass": ("pass p 1",),
    "open": ("pass p 1", "open o 1"),
    "room": ("open o 1", "room a at-once"),
    "thing": ("room a at-once", "thing t 1"),
    "bell": ("room a when-free", "thing t 1", "bell x row"),
    "deed": ("room a when-free", "deed d"),
    "deed row": ("room a when-free", "bell x row", "deed d", "call x"),
    "hand": ("room a when-free", "deed d", "tell 1", "hand"),
    "own thing": ("hand", "thing m 1"),
    "own row": ("hand", "thing m 1", "say m"),
}
BEHIND = {
    "begin": "pass open room hand",
    "pass": "pass open room hand",
    "open": "open room hand",
    "room": "thing bell deed room hand",
    "thing": "thing bell deed room hand",
    "bell": "bell deed room hand",
    "deed": "row deed room hand",
    "deed row": "row deed room hand",
    "hand": "thing row hand",
    "own thing": "thing row hand",
    "own row": "row hand",
}
ROWS = (
    "put t 1", "unless 0 1", "go 0", "do t r d 1", "do - r d + 1 2", "wait x 0", "call x", "all x", "tell 0", "take p",
    "give p", "pass p q", "say 1",
)
SORTS = {
    "pass": ("pass q 2", "pass p 0"),
    "open": ("open v 1",),
    "room": ("room b when-free", "room b at-once"),
    "thing": ("thing v 1",),
    "bell": ("bell y turns", "bell y row"),
    "deed": ("deed e",),
    "hand": ("hand",),
    "row": ROWS,
}
BAD_WORDS = ("", "A", "aB", "abcdefghi", "a1", "1", "a-b", "a_b", "\u00e4", "\u0430", "\u017f", "a\u0301", "\ud800", "?", "+", "a,", "-", "--")
BAD_NUMBERS = ("", "-1", "+1", "00", "01", "010", "12345", "99999", "1.", "1_0", "a", "\u0661", "\u00b2", "\uff11", "\u0967", "1\u0661", "x1", "-", "0x1")
BAD_VALUES = BAD_NUMBERS + ("10", "99", "t")
BAD_SUMS = (
    "", "+", "+ 1", "+ 1 2 3", "1 2", "t t", "!", "! 1 2", "?", "? 1", "? X", "? x x", "? ? x", "! ? ! x", "10", "-1", "- 1",
    "* 1 2", "> 1 2", "/ 1 2", "+ 1 %", "plus 1 2", "not t 1", "(1)", "+1 2", "+ 12", "1 + 2", "& 1", "= 1", "< 1", "== 1 2",
    "! ! ! ! ! 1", "! ! ! ! ! ? x", "+ 1 + 1 + 1 + 1 + 1 1", "+ + + + + 1 1 1 1 1 1", "abcdefghi", "T", "\u0661", "\u00e4", "+ 1 abcdefghi",
    "! ! ! ! ! ! ! ! ! ! ! ! 1", "! " * 3000 + "1", "+ " * 3000 + "1", "+ 1 " * 2000 + "1",
)
BLANKS = ("\t", "  ", "\u00a0", "\u3000", "\r", "\x0b", "\x0c", "\u2028", "\x85", "\x1c", "_", ",", "")


class Reading(unittest.TestCase):
    def refused(self, text, row):
        with self.assertRaises(NoText) as caught:
            read_world(text)
        self.assertEqual(caught.exception.row, row, text)
        self.assertIsInstance(caught.exception, RoomError)
        with self.assertRaises(NoText) as again:
            read_world(text)
        self.assertEqual(again.exception.row, row)

    def refused_rows(self, rows, row):
        self.refused("\n".join(rows), row)

    def read(self, *rows):
        told = read_world("\n".join(rows))
        self.assertTrue(is_world(told))
        return told


class ReadAsItWas(Reading):
    def test_worlds_by_number(self):
        for seed in range(150):
            for one in (thrown_world(seed), thrown_talk(seed), roomy_world(seed), roomy_world(seed, 2, 5)):
                self.assertEqual(read_world(show_world(one)), one)
                self.assertEqual(show_world(read_world(show_world(one))), show_world(one))

    def test_the_whole(self):
        told = self.read(*WHOLE)
        self.assertEqual(show_world(told), "\n".join(WHOLE))
        self.assertEqual(read_world("\n".join(WHOLE)), told)
        rooms, passes, shared, hands = told
        self.assertEqual((passes, shared), ((("p", 1), ("q", 0)), (("o", 5),)))
        self.assertEqual([place[:4] for place in rooms], [
            ("r", "when free", (("t", 0), ("u", 9)), (("x", "row"), ("y", "turns"))), ("s", "at once", (), ()),
        ])
        self.assertEqual(rooms[0][4], (
            ("d", (
                ("put", "t", "given"), ("unless", ("waits", "x"), 3), ("go", 4), ("do", "t", "s", "f", "t"), ("do", None, "s", "f", 3),
                ("wait", "y", ("plus", "t", 1)), ("call", "x"), ("all", "x"), ("tell", ("not", "t")),
            )),
            ("e", (("tell", 1),)),
        ))
        self.assertEqual(hands, (
            ((("m", 0), ("n", 1)), (
                ("put", "m", ("minus", "o", 1)), ("unless", ("same", "m", "o"), 10), ("go", 0), ("do", "m", "r", "d", "o"),
                ("do", None, "r", "e", ("less", "m", 2)), ("take", "p"), ("give", "q"), ("pass", "p", "q"), ("pass", "p", "p"),
                ("say", ("both", "m", "n")),
            )),
            ((), (("say", 3),)),
        ))

    def test_the_least(self):
        self.assertEqual(self.read("hand", "say 0"), ((), (), (), (((), (("say", 0),)),)))
        self.assertEqual(self.read("hand", "go 0", "hand", "go 1"), world([(("go", 0),), (("go", 1),)]))

    def test_sums(self):
        for text, tree in (
            ("0", 0), ("9", 9), ("m", "m"), ("+ m 1", ("plus", "m", 1)), ("- - m 1 2", ("minus", ("minus", "m", 1), 2)),
            ("- m - 1 2", ("minus", "m", ("minus", 1, 2))), ("! ! ! ! m", ("not", ("not", ("not", ("not", "m"))))),
            ("+ 1 + 2 + 3 + 4 5", ("plus", 1, ("plus", 2, ("plus", 3, ("plus", 4, 5))))),
            ("& < m 1 = m 2", ("both", ("less", "m", 1), ("same", "m", 2))),
        ):
            self.assertEqual(self.read("hand", "thing m 1", "say " + text)[3][0][1], (("say", tree),))

    def test_words_like_those_of_rows(self):
        for word in "pass open room thing bell deed hand put unless go do wait call all tell take give say row turns plus".split():
            rows = (f"pass {word} 1", "room zz when-free", f"thing {word} 2", f"bell {word} row", f"deed {word}", f"put {word} {word}", f"call {word}")
            more = ("hand", f"thing {word} 3", f"put {word} {word}", f"take {word}", f"do {word} zz {word} {word}", f"pass {word} {word}")
            self.assertEqual(show_world(self.read(*rows, *more)), "\n".join(rows + more))

    def test_numbers_of_two_figures(self):
        rows = ["hand"] + ["go 40"] * 39 + ["unless 10 1"]
        self.assertEqual(self.read(*rows)[3][0][1], (("go", 40),) * 39 + (("unless", 1, 10),))

    def test_told_worlds_within_the_bounds(self):
        for seed in range(40):
            one = thrown_talk(seed)
            self.assertEqual(read_world(show_world(exchanged(one, 0))), exchanged(one, 0))
            self.assertEqual(read_world(show_world(of_rooms(one))), of_rooms(one))


class NoForm(Reading):
    def faulty(self, beginning, row):
        """The row is the first faulty one, whatever stands behind it."""
        for rest in ((), ("hand", "say 1"), ("zzz",), ("",)):
            self.refused_rows(beginning + (row,) + rest, len(beginning))

    def rows_with_beginnings(self):
        for sort, rows in SORTS.items():
            place = next(place for place, sorts in BEHIND.items() if sort in sorts.split())
            for row in rows:
                yield BEGINNINGS[place], row
        for row in ROWS:
            yield BEGINNINGS["own row"], row

    def test_words_too_few_or_too_many(self):
        for beginning, row in self.rows_with_beginnings():
            words = row.split(" ")
            for at in range(len(words)):
                self.faulty(beginning, " ".join(words[:at] + words[at + 1:]))
                if at:
                    self.faulty(beginning, " ".join(words[:at]))
            for more in ("a", "1", "-", "+", "hand"):
                self.faulty(beginning, row + " " + more)

    def test_blanks(self):
        for beginning, row in self.rows_with_beginnings():
            for blank in BLANKS:
                if blank:
                    self.faulty(beginning, row + blank)
                    self.faulty(beginning, blank + row)
                if " " in row:
                    self.faulty(beginning, row.replace(" ", blank, 1))
                    self.faulty(beginning, blank.join(row.rsplit(" ", 1)))
            self.faulty(beginning, row + " ")
            self.faulty(beginning, " " + row)

    def test_first_words(self):
        for beginning, row in self.rows_with_beginnings():
            first, blank, rest = row.partition(" ")
            for other in (first.upper(), first.title(), first + "s", first[:-1], first + ":", "x" + first, "\ufeff" + first):
                if other not in ("",):
                    self.faulty(beginning, other + blank + rest)

    def test_words(self):
        for word in BAD_WORDS:
            self.faulty((), f"pass {word} 1")
            self.faulty((), f"open {word} 1")
            self.faulty((), f"room {word} at-once")
            for place in ("room", "hand"):
                self.faulty(BEGINNINGS[place], f"thing {word} 1")
            self.faulty(BEGINNINGS["room"], f"bell {word} row")
            self.faulty(BEGINNINGS["room"], f"deed {word}")
            for place in ("deed", "hand"):
                for row in ("put {} 1", "do t {} d 1", "do - r {} 1", "wait {} 0", "call {}", "all {}", "take {}", "give {}", "pass {} q"):
                    self.faulty(BEGINNINGS[place], row.format(word))
                if word != "1":
                    self.faulty(BEGINNINGS[place], f"pass p {word}")
                if word != "-":
                    self.faulty(BEGINNINGS[place], f"do {word} r d 1")

    def test_a_pass_with_a_value_is_no_row_of_a_program(self):
        for place in ("deed", "deed row", "hand", "own thing", "own row"):
            self.faulty(BEGINNINGS[place], "pass p 1")
        for place in ("begin", "pass", "open", "room", "bell"):
            self.faulty(BEGINNINGS[place], "pass p q")

    def test_values(self):
        for value in BAD_VALUES:
            self.faulty((), f"pass p {value}")
            self.faulty((), f"open o {value}") if value != "t" else None
            for place in ("room", "hand"):
                self.faulty(BEGINNINGS[place], f"thing t {value}")

    def test_manners_and_sorts(self):
        for manner in ("at once", "when free", "at_once", "At-once", "once", "free", "row", "atonce", "at-once-", "whenfree", "1", ""):
            self.faulty((), f"room a {manner}")
        for sort in ("rows", "turn", "Row", "Turns", "at-once", "1", "", "x"):
            self.faulty(BEGINNINGS["room"], f"bell x {sort}")

    def test_numbers(self):
        for number in BAD_NUMBERS:
            for place in ("deed", "hand", "own row"):
                self.faulty(BEGINNINGS[place], f"go {number}")
                self.faulty(BEGINNINGS[place], f"unless {number} 1")

    def test_sums(self):
        for text in BAD_SUMS:
            for place in ("deed", "own thing"):
                for row in ("put t", "unless 0", "do t r d", "do - r d", "wait x", "tell", "say"):
                    self.faulty(BEGINNINGS[place], f"{row} {text}")

    def test_empty_rows(self):
        self.refused("", 0)
        self.refused("\n", 0)
        for at in range(len(WHOLE) + 1):
            self.refused_rows(WHOLE[:at] + [""] + WHOLE[at:], at)

    def test_other_line_ends(self):
        self.refused("\n".join(WHOLE) + "\n", len(WHOLE))
        self.refused("\n".join(WHOLE) + "\n\n", len(WHOLE))
        self.refused("\n" + "\n".join(WHOLE), 0)
        for end in ("\r\n", "\r", "\x0b", "\x0c", "\x1c", "\x1d", "\x1e", "\x85", "\u2028", "\u2029", "\n\r"):
            self.refused(end.join(WHOLE), 1 if end == "\n\r" else 0)
            self.refused("hand\nsay 1" + end, 2 if end[0] == "\n" else 1)

    def test_the_first_faulty_row(self):
        for at in range(len(WHOLE)):
            for other in range(at, len(WHOLE)):
                rows = list(WHOLE)
                rows[at] = rows[at] + "!"
                rows[other] = rows[other] + "?"
                self.refused_rows(rows, at)


class NoPlace(Reading):
    def test_each_sort_behind_each(self):
        for place, beginning in BEGINNINGS.items():
            for sort, rows in SORTS.items():
                for row in rows:
                    # The last row has no form, so it is the first faulty one where the one ahead of it may stand there.
                    fits = sort in BEHIND[place].split()
                    self.refused_rows(beginning + (row, "no row"), len(beginning) + fits)

    def test_each_row_behind_each_in_a_program(self):
        for place in ("deed", "own thing"):
            for first in ROWS:
                for second in ROWS:
                    rows = BEGINNINGS[place] + (first, second)
                    self.refused_rows(rows + ("",), len(rows))

    def test_hands_stand_behind_all(self):
        for row in ("pass p 1", "open o 1", "room r at-once", "bell x row", "deed d", "thing t 1"):
            self.refused_rows(("hand", "say 1", row), 2)
        for row in ("pass p 1", "open o 1", "bell x row", "thing t 1"):
            self.refused_rows(("room a at-once", "deed d", "tell 1", row), 3)


class NoWorld(Reading):
    def no_world(self, *rows):
        self.refused_rows(rows, len(rows))

    def test_parts_that_are_missing(self):
        self.no_world("pass p 1")
        self.no_world("open o 1")
        self.no_world("hand")
        self.no_world("hand", "thing m 1")
        self.no_world("hand", "hand", "say 1")
        self.no_world("hand", "say 1", "hand")
        self.no_world("room a at-once")
        self.no_world("room a at-once", "hand", "say 1")
        self.no_world("room a at-once", "thing t 1", "bell x row", "hand", "say 1")
        self.no_world("room a at-once", "room b at-once", "deed d", "tell 1", "hand", "say 1")
        self.no_world("room a at-once", "deed d", "hand", "say 1")
        self.no_world("room a at-once", "deed d", "deed e", "tell 1", "hand", "say 1")
        self.no_world("room a at-once", "deed d", "tell 1")

    def test_words_alike_or_not_rising(self):
        for first, second in (("a", "a"), ("b", "a"), ("ab", "a")):
            self.no_world(f"pass {first} 1", f"pass {second} 1", "hand", "say 1")
            self.no_world(f"open {first} 1", f"open {second} 1", "hand", "say 1")
            self.no_world("hand", f"thing {first} 1", f"thing {second} 1", "say 1")
            self.no_world(f"room {first} at-once", "deed d", "tell 1", f"room {second} at-once", "deed d", "tell 1", "hand", "say 1")
            self.no_world("room r at-once", f"thing {first} 1", f"thing {second} 1", "deed d", "tell 1", "hand", "say 1")
            self.no_world("room r at-once", f"bell {first} row", f"bell {second} row", "deed d", "tell 1", "hand", "say 1")
            self.no_world("room r at-once", f"deed {first}", "tell 1", f"deed {second}", "tell 1", "hand", "say 1")
        self.no_world("pass a 1", "room a at-once", "deed d", "tell 1", "hand", "say 1")
        self.no_world("open a 1", "hand", "thing a 1", "say 1")
        self.no_world("hand", "thing given 1", "say 1")
        self.no_world("open given 1", "hand", "say 1")

    def test_what_is_named_and_is_not_there(self):
        for row in ("put z 1", "say z", "take z", "give z", "pass p z", "pass z p", "do m z d 1", "do m r z 1", "do z r d 1", "do m r d z", "unless 0 z", "say given"):
            self.no_world("pass p 1", "room r at-once", "deed d", "tell 1", "hand", "thing m 1", row)
        for row in ("put z 1", "tell z", "wait z 1", "wait x z", "call z", "do t s z 1", "do t z d 1", "do z s d 1", "tell ? z", "unless 0 ? t"):
            self.no_world("room r at-once", "thing t 1", "bell x row", "deed d", row, "room s at-once", "deed d", "tell 1", "hand", "say 1")

    def test_rows_of_the_other_kind_of_program(self):
        for row in ("wait x 0", "call x", "all x", "tell 1", "say ? x"):
            self.no_world("room r when-free", "bell x row", "deed d", "tell 1", "hand", row)
        for row in ("take p", "give p", "pass p p", "say 1"):
            self.no_world("pass p 1", "room r when-free", "bell x row", "deed d", row, "hand", "say 1")
        self.no_world("room r at-once", "bell x row", "deed d", "all x", "hand", "say 1")

    def test_rows_too_far(self):
        for number in (2, 3, 10, 9999):
            self.no_world("hand", f"go {number}")
            self.no_world("hand", f"unless {number} 1")
            self.no_world("room r at-once", "deed d", f"go {number}", "hand", "say 1")

    def test_a_deed_that_comes_to_itself(self):
        self.no_world("room r at-once", "deed d", "do - r d 1", "hand", "say 1")
        self.no_world("room r at-once", "deed d", "do - r e 1", "deed e", "do - r d 1", "hand", "say 1")

    def test_beyond_the_bounds(self):
        letters = "abcdefghijklmnopq"
        self.no_world("hand", *["say 1"] * 41)
        self.no_world(*["hand", "say 1"] * 5)
        self.no_world(*[f"pass {letter} 1" for letter in letters], "hand", "say 1")
        self.no_world(*[f"open {letter} 1" for letter in letters], "hand", "say 1")
        self.no_world("hand", *[f"thing {letter} 1" for letter in letters[:9]], "say 1")
        self.no_world("room r at-once", *[f"thing {letter} 1" for letter in letters[:5]], "deed d", "tell 1", "hand", "say 1")
        self.no_world("room r at-once", *[f"bell {letter} row" for letter in letters[:4]], "deed d", "tell 1", "hand", "say 1")
        self.no_world("room r at-once", *[row for letter in letters[:5] for row in (f"deed {letter}", "tell 1")], "hand", "say 1")
        self.no_world(*[row for letter in letters[:5] for row in (f"room {letter} at-once", "deed d", "tell 1")], "hand", "say 1")


class NoTextAtAll(Reading):
    def test_odd_things(self):
        things = [thing for thing in odd_things() if not isinstance(thing, str)]
        things += [b"hand\nsay 1", ["hand", "say 1"], ("hand", "say 1"), {"hand": "say 1"}, {"hand", "say 1"}, 0, 1, 10 ** 5000, (), Odd(), Odd]
        things += [["hand\nsay 1"], ("hand\nsay 1",), nested(60, lambda thing: [thing, "hand"]), nested(60, lambda thing: {"hand": thing})]
        for thing in things:
            with self.assertRaises(NoText) as caught:
                read_world(thing)
            self.assertEqual(caught.exception.row, 0)

    def test_a_world_is_no_text(self):
        with self.assertRaises(NoText) as caught:
            read_world(world([(("say", 1),)], [room("r", {"d": (("tell", 0),)})]))
        self.assertEqual(caught.exception.row, 0)


if __name__ == "__main__":
    unittest.main()
