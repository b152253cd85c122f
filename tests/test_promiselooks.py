"""Point [18]'s look at promises, and [3](b) and [2] for it."""

import itertools
import unittest

from calledroom.promiselooks import shows_promise
from calledroom.promises import broken_way
from calledroom.sums import bells_of, value_of
from calledroom.worlds import is_world
from tests.helper import Dice, room, thrown_sum, thrown_world, world

BELLS = (("x", "row"), ("y", "turns"))
PROMISES = (
    "t", ("not", "t"), ("less", "t", 2), ("same", "t", 1), ("not", ("same", "t", 2)), 1, ("less", "t", 3),
    ("less", "t", 9),
)


class ByWords:
    """What [18] tells of a room, word by word, row by row."""

    def __init__(self, one, number, promise, calls):
        name, self.manner, self.things, bells, self.deeds = one[0][number]
        self.words = [word for word, value in self.things]
        self.promise = promise
        self.calls = dict(zip([bell for bell, sort in bells], calls))
        everything = itertools.product(range(10), repeat=len(self.words))
        self.kept = [values for values in everything if self.keeps(values, promise)]
        self.called = {bell: [values for values in self.kept if self.keeps(values, tree)] for bell, tree in self.calls.items()}

    def keeps(self, values, tree):
        return value_of(tree, dict(zip(self.words, values)), {}) != 0

    def told(self):
        if not self.keeps(tuple([value for word, value in self.things]), self.promise):
            return False
        return all([self.is_kept(program, given) for deed, program in self.deeds for given in range(10)])

    def is_kept(self, program, given):
        due = [(0, values) for values in self.kept]
        seen = set(due)
        while due:
            at, values = due.pop()
            behind = self.behind(program, at, values, given)
            if behind is None:
                return False
            for state in behind:
                if state not in seen:
                    seen.add(state)
                    due.append(state)
        return True

    def ends(self, tree, values, given):
        things = dict(zip(self.words, values), given=given)
        bells = bells_of(tree)
        return [value_of(tree, things, dict(zip(bells, waits))) for waits in itertools.product((0, 1), repeat=len(bells))]

    def put(self, values, word, value):
        at = self.words.index(word)
        return values[:at] + (value,) + values[at + 1:]

    def behind(self, program, at, values, given):
        """The rows and values that come of these, or None where something isn't kept that must be."""
        if at == len(program):
            return [] if self.keeps(values, self.promise) else None
        row = program[at]
        if row[0] == "put":
            return [(at + 1, self.put(values, row[1], value)) for value in self.ends(row[2], values, given)]
        if row[0] == "unless":
            return [(at + 1 if value else row[2], values) for value in self.ends(row[1], values, given)]
        if row[0] == "go":
            return [(row[1], values)]
        if row[0] == "do" and row[1] is not None:
            return [(at + 1, self.put(values, row[1], value)) for value in range(10)]
        if row[0] == "wait":
            if not self.keeps(values, self.promise):
                return None
            return [(at + 1, other) for other in (self.called[row[1]] if self.manner == "at once" else self.kept)]
        if row[0] == "call" and self.manner == "at once":
            if not self.keeps(values, self.promise) or not self.keeps(values, self.calls[row[1]]):
                return None
            return [(at + 1, other) for other in self.kept]
        return [(at + 1, values)]


def thrown_pair_room(seed):
    """A room by number with two things, whose deeds go to and fro."""
    dice = Dice(seed)
    manner = dice.one_of(("at once", "when free"))
    deeds = {}
    for name in ("d", "e"):
        rows = []
        for at in range(4):
            tree = thrown_sum(dice, ("t", "u", "given"), ("x", "y"))
            rows.append(dice.one_of((
                ("put", "t", tree), ("put", "u", tree), ("unless", tree, dice.throw(5)), ("go", dice.throw(5)),
                ("wait", "x", tree), ("call", "x"), ("call", "y"), ("put", dice.one_of(("t", "u")), dice.throw(4)),
                ("do", dice.one_of((None, "u")), "s", "d", tree), ("put", "t", ("minus", "t", 1)),
            )))
        deeds[name] = tuple(rows)
    things = (("t", dice.throw(3)), ("u", 1))
    return world([(("say", 0),)], [room("r", deeds, manner, things, BELLS), room("s", {"d": (("tell", 0),)})])


class Looks(unittest.TestCase):
    def told(self, deeds, promise, calls=(1, 1), manner="when free", things=(("t", 1),), bells=BELLS):
        rooms = [room("r", deeds, manner, things, bells), room("s", {"d": (("tell", 0),)})]
        one = world([(("say", 0),)], rooms)
        self.assertTrue(is_world(one))
        told = shows_promise(one, 0, promise, calls)
        self.assertIs(told, ByWords(one, 0, promise, calls).told())
        return told

    def taken(self, rows, promise, **more):
        self.assertIs(self.told({"d": rows}, promise, **more), True)

    def refused(self, rows, promise, **more):
        self.assertIs(self.told({"d": rows}, promise, **more), False)


class AtFirst(Looks):
    def test_values_at_first(self):
        rows = (("put", "t", 1),)
        self.taken(rows, "t")
        self.refused(rows, "t", things=(("t", 0),))
        self.taken(rows, ("less", "t", 5), things=(("t", 4),))
        self.refused(rows, ("less", "t", 5), things=(("t", 5),))

    def test_always_kept_and_never(self):
        for rows in ((("put", "t", "given"),), (("wait", "x", 0),), (("call", "y"), ("do", "t", "s", "d", 0)), (("go", 0),)):
            for manner in ("at once", "when free"):
                self.taken(rows, 1, manner=manner)
                self.taken(rows, ("less", 0, ("plus", "t", 1)), manner=manner)
                self.refused(rows, 0, manner=manner)
                self.refused(rows, ("minus", "t", 9), manner=manner)

    def test_rooms_without_things(self):
        for rows in ((("tell", "given"),), (("wait", "x", 0),), (("call", "x"),), (("do", None, "s", "d", 0),)):
            for manner in ("at once", "when free"):
                self.taken(rows, 1, things=(), manner=manner)
                self.refused(rows, 0, things=(), manner=manner)

    def test_rooms_without_bells(self):
        self.taken((("put", "t", 2),), "t", bells=(), calls=())
        self.refused((("put", "t", 0),), "t", bells=(), calls=(), manner="at once")
        self.taken((("tell", 0),), 1, things=(), bells=(), calls=())

    def test_the_room_by_number(self):
        rooms = [
            room("a", {"d": (("put", "t", 0),)}, things=(("t", 1),)), room("b", {"d": (("put", "t", 1),)}, things=(("t", 1),)),
        ]
        one = world([(("say", 0),)], rooms)
        self.assertEqual([shows_promise(one, number, "t", ()) for number in (0, 1)], [False, True])


class Rows(Looks):
    def test_at_the_end(self):
        self.refused((("put", "t", 0),), "t")
        self.taken((("put", "t", 2),), "t")
        self.refused((("go", 2), ("put", "t", 1), ("put", "t", 0)), "t")
        self.refused((("put", "t", 0), ("go", 3), ("put", "t", 1)), "t")

    def test_in_between_alone(self):
        self.taken((("put", "t", 0), ("put", "t", 1)), "t")
        self.taken((("put", "t", 0), ("tell", "t"), ("unless", "t", 3), ("put", "t", 1)), ("less", "t", 2))
        self.taken((("put", "t", 0), ("do", None, "s", "d", 0), ("put", "t", 1)), "t")

    def test_each_deed(self):
        good, bad = (("put", "t", 1),), (("put", "t", 0),)
        self.assertIs(self.told({"a": good, "b": good, "c": good}, "t"), True)
        for name in ("a", "b", "c"):
            self.assertIs(self.told({"a": good, "b": good, "c": good, name: bad}, "t"), False)

    def test_all_values_that_keep_it_are_begun_with(self):
        # The values at first alone would keep it.
        self.refused((("put", "t", ("plus", "t", 1)),), ("less", "t", 5))
        self.taken((("put", "t", ("minus", "t", 1)),), ("less", "t", 5))
        for value in range(1, 10):
            rows = (("unless", ("same", "t", value), 2), ("put", "t", 0))
            self.refused(rows, "t", things=(("t", 9 if value == 1 else 1),))

    def test_values_that_do_not_keep_it_are_not_begun_with(self):
        self.taken((("unless", ("not", "t"), 2), ("put", "t", 0)), "t")
        self.taken((("put", "t", ("plus", "t", 0)),), ("less", "t", 5))

    def test_given_is_each(self):
        for value in range(10):
            promise = ("not", ("same", "t", value))
            things = (("t", (value + 1) % 10),)
            self.refused((("put", "t", "given"),), promise, things=things)
            self.refused((("unless", ("same", "given", value), 2), ("put", "t", value)), promise, things=things)
            self.taken((("unless", ("not", ("same", "given", value)), 2), ("put", "t", "given")), promise, things=things)
        self.taken((("put", "t", ("plus", "given", 1)),), "t")
        self.taken((("put", "t", ("minus", "given", 1)),), ("less", "t", 9))

    def test_given_stays_behind_waits_and_calls(self):
        three, other = ("same", "given", 3), ("not", ("same", "given", 3))
        for row in (("wait", "x", 0), ("call", "x"), ("do", None, "s", "d", 0)):
            for manner in ("at once", "when free"):
                self.taken((("unless", three, 4), row, ("unless", other, 4), ("put", "t", 0)), "t", manner=manner)
                self.refused((("unless", three, 4), row, ("unless", three, 4), ("put", "t", 0)), "t", manner=manner)

    def test_given_where_it_changes_nothing(self):
        rows = (("tell", "given"), ("wait", "y", "given"), ("do", None, "s", "d", "given"))
        self.taken(rows, "t")

    def test_tell(self):
        self.taken((("tell", 0), ("tell", "t")), "t")

    def test_unless(self):
        self.taken((("unless", "t", 2), ("go", 3), ("put", "t", 0)), "t")
        self.refused((("unless", "t", 2), ("put", "t", 0), ("tell", 0)), "t")
        self.taken((("unless", ("not", "t"), 2), ("put", "t", 0), ("tell", 0)), "t")

    def test_rounds_that_never_end(self):
        self.taken((("go", 0),), "t")
        self.taken((("put", "t", 0), ("go", 0)), "t")
        self.taken((("put", "t", ("not", "t")), ("unless", 0, 0)), "t")
        self.refused((("put", "t", 0), ("unless", ("waits", "x"), 0)), "t")

    def test_rounds_that_end(self):
        rows = (("put", "t", ("plus", "t", 1)), ("unless", ("same", "t", 9), 0))
        self.taken(rows, ("not", ("less", 0, ("minus", 1, "t"))))
        self.refused(rows, ("less", "t", 9))
        self.taken(rows + (("put", "t", 1),), ("less", "t", 9))

    def test_do(self):
        for value in range(10):
            promise = ("not", ("same", "t", value))
            self.refused((("do", "t", "s", "d", 0),), promise, things=(("t", (value + 1) % 10),))
        self.taken((("do", "t", "s", "d", 0), ("put", "t", 1)), "t")
        self.taken((("do", None, "s", "d", 0),), "t")
        self.taken((("do", "u", "s", "d", 0),), "t", things=(("t", 1), ("u", 0)))
        self.refused((("do", "u", "s", "d", 0),), "u", things=(("t", 1), ("u", 1)))
        self.refused((("do", "t", "s", "d", 0), ("unless", "t", 3), ("put", "t", 1)), "t")

    def test_two_things(self):
        things = (("a", 1), ("b", 2))
        self.taken((("put", "a", "b"), ("put", "b", ("plus", "b", 1))), ("not", ("less", "b", "a")), things=things)
        self.refused((("put", "a", "b"), ("put", "b", ("plus", "b", 1))), ("less", "a", "b"), things=things)
        self.taken((("put", "b", ("plus", "b", 1)),), ("less", "a", "b"), things=things)
        self.refused((("put", "b", "a"),), ("less", "a", "b"), things=things)


class Waits(Looks):
    def test_at_a_wait(self):
        for manner in ("at once", "when free"):
            self.refused((("put", "t", 0), ("wait", "x", 0), ("put", "t", 1)), "t", manner=manner)
            self.taken((("put", "t", 2), ("wait", "x", 0)), "t", manner=manner)

    def test_behind_a_wait_all_values_that_keep_it(self):
        for value in range(5):
            check = (("unless", ("same", "t", value), 4), ("put", "t", 9))
            rows = (("put", "t", (value + 1) % 5), ("wait", "x", 0)) + check
            for manner in ("at once", "when free"):
                self.refused(rows, ("less", "t", 5), manner=manner)
            self.taken((("put", "t", (value + 1) % 5), ("tell", 0)) + check, ("less", "t", 5))

    def test_behind_a_wait_no_other_values(self):
        rows = (("wait", "x", 0), ("unless", ("less", 4, "t"), 3), ("put", "t", 9))
        for manner in ("at once", "when free"):
            self.taken(rows, ("less", "t", 5), manner=manner)

    def test_behind_a_wait_at_once_the_sum_of_its_bell_is_kept(self):
        for bell, calls in (("x", (("same", "t", 1), 1)), ("y", (1, ("same", "t", 1)))):
            rows = (("wait", bell, 0), ("unless", ("not", ("same", "t", 1)), 3), ("put", "t", 9))
            self.taken(rows, ("less", "t", 5), calls=calls, manner="at once")
            self.refused(rows, ("less", "t", 5), calls=calls[::-1], manner="at once")
            self.refused(rows, ("less", "t", 5), calls=(1, 1), manner="at once")
            self.refused(rows, ("less", "t", 5), calls=calls, manner="when free")

    def test_behind_a_wait_at_once_both_are_kept(self):
        # What keeps the sum of calls but not the promise is not gone on with.
        rows = (("wait", "x", 0), ("unless", ("same", "t", 7), 3), ("put", "t", 9))
        self.taken(rows, ("less", "t", 5), calls=(("less", 2, "t"), 1), manner="at once")

    def test_a_sum_of_calls_that_nothing_keeps(self):
        rows = (("wait", "x", 0), ("put", "t", 9))
        self.taken(rows, ("less", "t", 5), calls=(0, 1), manner="at once")
        self.refused(rows, ("less", "t", 5), calls=(0, 1), manner="when free")
        self.refused((("put", "t", 9),) + rows, ("less", "t", 5), calls=(0, 1), manner="at once")

    def test_two_waits(self):
        rows = (("wait", "x", 0), ("wait", "y", 0), ("unless", ("same", "t", 2), 4), ("put", "t", 9))
        self.taken(rows, ("less", "t", 5), calls=(("same", "t", 2), ("same", "t", 1)), manner="at once")
        self.refused(rows, ("less", "t", 5), calls=(("same", "t", 1), ("same", "t", 2)), manner="at once")

    def test_a_wait_gone_round(self):
        rows = (("unless", ("same", "t", 3), 2), ("go", 4), ("wait", "x", 0), ("go", 0), ("put", "t", 1))
        self.taken(rows, ("less", "t", 5))
        self.taken(rows, "t", manner="at once", calls=(("same", "t", 3), 1))
        self.refused(rows[:4] + (("put", "t", 6),), ("less", "t", 5))
        # Only two comes back, so it is never three behind the wait; but it may be at first.
        self.refused(rows[:4] + (("put", "t", 6),), ("less", "t", 5), manner="at once", calls=(("same", "t", 2), 1))

    def test_a_wait_come_to_with_more_values_later(self):
        # The wait is come to again, with values behind a first go round that don't keep it.
        rows = (("wait", "x", 0), ("put", "t", ("plus", "t", 1)), ("go", 0))
        self.refused(rows, ("less", "t", 5))
        self.taken((("wait", "x", 0), ("put", "t", ("minus", "t", 1)), ("go", 0)), ("less", "t", 5))


class Calls(Looks):
    def test_at_a_call_at_once_the_promise_is_kept(self):
        rows = (("put", "t", 0), ("call", "x"), ("put", "t", 1))
        self.refused(rows, "t", manner="at once")
        self.taken(rows, "t", manner="when free")
        # Whether anybody waits there or not: here nobody ever does.
        self.refused(rows, "t", manner="at once", calls=(1, 1))

    def test_at_a_call_at_once_the_sum_of_its_bell_is_kept(self):
        for bell, calls in (("x", (("same", "t", 2), 1)), ("y", (1, ("same", "t", 2)))):
            self.taken((("put", "t", 2), ("call", bell)), "t", calls=calls, manner="at once")
            self.refused((("put", "t", 3), ("call", bell)), "t", calls=calls, manner="at once")
            self.refused((("call", bell),), "t", calls=calls, manner="at once")
            self.taken((("put", "t", 3), ("call", bell)), "t", calls=calls[::-1], manner="at once")
            self.taken((("put", "t", 3), ("call", bell)), "t", calls=calls, manner="when free")

    def test_the_sum_of_calls_alone_is_not_enough(self):
        rows = (("put", "t", 7), ("call", "x"), ("put", "t", 1))
        self.refused(rows, ("less", "t", 5), calls=(("same", "t", 7), 1), manner="at once")

    def test_behind_a_call_at_once_all_values_that_keep_the_promise(self):
        for value in range(5):
            check = (("unless", ("same", "t", value), 4), ("put", "t", 9))
            rows = (("put", "t", (value + 1) % 5), ("call", "x")) + check
            self.refused(rows, ("less", "t", 5), manner="at once")
            self.refused(rows, ("less", "t", 5), manner="at once", calls=(("same", "t", (value + 1) % 5), 1))
            self.taken(rows, ("less", "t", 5), manner="when free")
        rows = (("call", "x"), ("unless", ("less", 4, "t"), 3), ("put", "t", 9))
        self.taken(rows, ("less", "t", 5), manner="at once")

    def test_calls_when_free_change_nothing(self):
        for row in (("call", "x"), ("all", "x"), ("all", "y")):
            rows = (("put", "t", 0), row, ("unless", ("not", "t"), 4), ("put", "t", 1))
            self.taken(rows, "t", calls=(0, 0))
            self.refused((("put", "t", 0), row), "t")

    def test_a_sum_of_calls_that_nothing_keeps(self):
        self.refused((("call", "x"),), "t", calls=(0, 1), manner="at once")
        self.taken((("call", "x"),), "t", calls=(1, 0), manner="at once")
        self.taken((("go", 2), ("call", "x"), ("tell", 0)), "t", calls=(0, 0), manner="at once")

    def test_a_call_of_a_wait_in_another_deed(self):
        deeds = {
            "get": (("unless", ("same", "t", 0), 2), ("wait", "x", 0), ("put", "t", ("minus", "t", 1))),
            "more": (("put", "t", 3), ("call", "x")),
        }
        self.assertIs(self.told(deeds, ("less", "t", 4), ("t", 1), "at once"), True)
        self.assertIs(self.told(deeds, ("less", "t", 3), ("t", 1), "at once"), False)


class WaitsInSums(Looks):
    def test_both_are_gone_on_with(self):
        rows = (("put", "t", ("waits", "x")),)
        self.refused(rows, "t")
        self.refused(rows, ("not", "t"), things=(("t", 0),))
        self.taken(rows, ("less", "t", 2))
        for promise, value in (("t", 1), (("not", "t"), 0)):
            rows = (("unless", ("waits", "x"), 3), ("put", "t", 0), ("go", 4), ("put", "t", 1))
            self.refused(rows, promise, things=(("t", value),))
            self.taken(rows, ("less", "t", 2), things=(("t", value),))

    def test_the_same_bell_twice_is_one(self):
        self.taken((("put", "t", ("same", ("waits", "x"), ("waits", "x"))),), "t")
        self.taken((("put", "t", ("both", ("waits", "x"), ("not", ("waits", "x")))),), ("not", "t"), things=(("t", 0),))
        self.taken((("unless", ("minus", ("waits", "y"), ("waits", "y")), 2), ("put", "t", 0)), "t")

    def test_two_bells_are_each_by_itself(self):
        self.refused((("put", "t", ("same", ("waits", "x"), ("waits", "y"))),), "t")
        pair = ("plus", ("waits", "x"), ("plus", ("waits", "y"), ("waits", "y")))
        for value in range(4):
            self.refused((("put", "t", pair),), ("not", ("same", "t", value)), things=(("t", 9),))
        self.taken((("put", "t", pair),), ("less", "t", 4))

    def test_each_sum_is_by_itself(self):
        # The second sum may find nobody though the first one found somebody.
        self.refused((("unless", ("waits", "x"), 2), ("put", "t", ("waits", "x"))), "t")
        self.refused((("put", "t", ("waits", "x")), ("put", "t", ("same", "t", ("waits", "x")))), "t")

    def test_a_word_that_is_a_thing_too(self):
        bells = (("t", "row"),)
        self.taken((("put", "t", ("plus", "t", ("waits", "t"))),), "t", bells=bells, calls=(1,))
        self.refused((("put", "t", ("waits", "t")),), "t", bells=bells, calls=(1,))

    def test_waits_in_sums_that_change_nothing(self):
        self.taken((("tell", ("waits", "x")), ("do", None, "s", "d", ("waits", "y"))), "t")


class Held(Looks):
    def test_as_the_words_say(self):
        told = []
        for seed in range(40):
            one = thrown_world(seed)
            for number, promise in enumerate((PROMISES[seed % 8], PROMISES[(seed + 3) % 8])):
                for calls in ((1, 1), (PROMISES[(seed + 1) % 8], PROMISES[(seed + 5) % 8])):
                    told.append(shows_promise(one, number, promise, calls))
                    self.assertIs(told[-1], ByWords(one, number, promise, calls).told())
        self.assertGreater(told.count(True), 20)
        self.assertGreater(told.count(False), 20)

    def test_two_things_as_the_words_say(self):
        told = []
        promises = (1, ("less", "t", 4), ("not", ("less", "u", "t")), ("less", ("plus", "t", "u"), 5))
        for seed in range(60):
            one = thrown_pair_room(seed)
            self.assertTrue(is_world(one))
            calls = (promises[seed % 3], ("less", "t", 3))
            for promise in promises[1:2] + promises[2 + seed % 2:]:
                told.append(shows_promise(one, 0, promise, calls))
                self.assertIs(told[-1], ByWords(one, 0, promise, calls).told())
        self.assertGreater(told.count(True), 5)
        self.assertGreater(told.count(False), 20)

    def test_what_is_taken_is_never_broken(self):
        taken = 0
        for seed in range(80):
            one = thrown_world(seed)
            for number in (0, 1):
                for promise in PROMISES:
                    if shows_promise(one, number, promise, (1, 1)) or shows_promise(one, number, promise, ("t", ("less", "t", 2))):
                        taken += 1
                        self.assertEqual(broken_way(one, number, promise, 3000), ("kept", None))
        self.assertGreater(taken, 200)

    def test_what_is_kept_may_not_be_taken(self):
        # Nobody ever gives nought, but the look by itself can't know.
        rooms = [room("r", {"d": (("put", "t", "given"),)}, things=(("t", 1),))]
        one = world([(("do", None, "r", "d", 2),)], rooms)
        self.assertEqual(broken_way(one, 0, "t", 100), ("kept", None))
        self.assertIs(shows_promise(one, 0, "t", ()), False)

    def test_four_things(self):
        things = (("a", 0), ("b", 0), ("c", 0), ("d", 0))
        deeds = {"d": (("put", "a", ("plus", "a", "b")), ("wait", "x", 0), ("put", "c", "d"), ("go", 0))}
        one = world([(("say", 0),)], [room("r", deeds, "when free", things, BELLS)])
        self.assertIs(shows_promise(one, 0, ("less", "d", 9), (1, 1)), True)
        self.assertIs(shows_promise(one, 0, ("less", "a", 9), (1, 1)), False)

    def test_told_again(self):
        one = thrown_world(4)
        self.assertEqual(shows_promise(one, 0, "t", (1, 1)), shows_promise(one, 0, "t", (1, 1)))


if __name__ == "__main__":
    unittest.main()
