"""Point [4], and [2] for it."""

import unittest

from calledroom.sums import bells_of, is_sum, value_of, words_of
from tests.helper import nested, odd_things

PAIRED = ("plus", "minus", "less", "same", "both")


def negated(times, bottom):
    for time in range(times):
        bottom = ("not", bottom)
    return bottom


def doubled(times, bottom):
    for time in range(times):
        bottom = ("plus", bottom, bottom)
    return bottom


class IsSum(unittest.TestCase):
    def yes(self, *things):
        for thing in things:
            with self.subTest(thing=thing):
                self.assertIs(is_sum(thing), True)

    def no(self, *things):
        for at, thing in enumerate(things):
            with self.subTest(at=at):
                self.assertIs(is_sum(thing), False)

    def test_values(self):
        self.yes(*range(10))
        self.no(-1, 10, 100, -9)

    def test_truths_are_no_values(self):
        self.no(True, False, ("plus", True, 1), ("plus", 1, False), ("not", True), ("not", ("not", False)))

    def test_words(self):
        self.yes("a", "z", "given", "abcdefgh", "zzzzzzzz", "plus", "waits", "not")
        self.no("", "abcdefghi", "A", "aB", "a1", "1", "a b", " a", "a ", "a_b", "a-b", "a\n", "\u00e4", "\u017f", "\u0661")

    def test_odd_things(self):
        self.no(*odd_things())

    def test_odd_things_within(self):
        for odd in odd_things():
            self.no(("plus", odd, 1), ("plus", 1, odd), ("not", odd), ("waits", odd), (odd, 1, 1), (odd, 1))

    def test_forms_of_two(self):
        for form in PAIRED:
            self.yes((form, 1, 2), (form, "a", ("waits", "b")), (form, (form, 1, 2), 3), (form, 3, (form, 1, 2)))
            self.no((form,), (form, 1), (form, 1, 2, 3), [form, 1, 2], (form, [form, 1, 2], 1), (form, 1, ()))

    def test_not(self):
        self.yes(("not", 0), ("not", "a"), ("not", ("waits", "a")))
        self.no(("not",), ("not", 1, 2), ["not", 1], ("not", ["not", 1]))

    def test_waits(self):
        self.yes(("waits", "a"), ("waits", "abcdefgh"))
        self.no(("waits",), ("waits", "a", "b"), ["waits", "a"], ("waits", 1), ("waits", ("waits", "a")))
        self.no(("waits", ""), ("waits", "abcdefghi"), ("waits", "A"), ("waits", ("a",)), ("waits", None))

    def test_other_forms(self):
        self.no(("times", 1, 2), ("Plus", 1, 2), ("", 1, 2), ("or", 1, 2), (1, 2), (1, 2, 3), ("a", "b"), ("neither", 1))

    def test_five_deep(self):
        for bottom in (1, "a", ("waits", "a")):
            self.yes(negated(4, bottom), doubled(4, bottom))
            self.no(negated(5, bottom), doubled(5, bottom))

    def test_one_side_too_deep(self):
        for form in PAIRED:
            self.yes((form, negated(3, 1), 1), (form, 1, negated(3, 1)))
            self.no((form, negated(4, 1), 1), (form, 1, negated(4, 1)))

    def test_sixty_deep(self):
        for bottom in (1, "a", ("waits", "a")):
            self.no(negated(59, bottom))
        self.no(nested(60, lambda thing: ("both", thing, thing)), nested(60, lambda thing: [thing]))

    def test_what_is_handed_in_stays(self):
        thing = ["plus", 1, [2]]
        is_sum(thing)
        is_sum(("plus", thing, 1))
        self.assertEqual(thing, ["plus", 1, [2]])


class Words(unittest.TestCase):
    def test_none(self):
        for tree in (0, 9, ("plus", 1, 2), ("not", ("same", 3, 3))):
            self.assertEqual(words_of(tree), ())
            self.assertEqual(bells_of(tree), ())

    def test_rising_and_once(self):
        tree = ("plus", ("less", "c", "a"), ("both", "b", ("not", "a")))
        self.assertEqual(words_of(tree), ("a", "b", "c"))
        self.assertEqual(bells_of(tree), ())
        self.assertEqual(words_of("given"), ("given",))

    def test_bells(self):
        tree = ("same", ("waits", "d"), ("minus", ("waits", "a"), ("plus", ("waits", "d"), ("waits", "c"))))
        self.assertEqual(bells_of(tree), ("a", "c", "d"))
        self.assertEqual(words_of(tree), ())

    def test_both_ways(self):
        tree = ("both", ("waits", "a"), ("plus", "a", ("not", ("waits", "b"))))
        self.assertEqual(words_of(tree), ("a",))
        self.assertEqual(bells_of(tree), ("a", "b"))

    def test_words_called_as_forms(self):
        tree = ("plus", "waits", ("waits", "plus"))
        self.assertEqual(words_of(tree), ("waits",))
        self.assertEqual(bells_of(tree), ("plus",))

    def test_kinds(self):
        self.assertIsInstance(words_of("a"), tuple)
        self.assertIsInstance(bells_of(("waits", "a")), tuple)


class ValueOf(unittest.TestCase):
    def told(self, tree, value, things=None, waiting=None):
        answer = value_of(tree, things or {}, waiting or {})
        self.assertEqual(answer, value, tree)
        self.assertNotIsInstance(answer, bool)

    def test_values_and_words(self):
        for value in range(10):
            self.told(value, value)
            self.told("a", value, {"a": value, "b": 5})

    def test_forms_of_two(self):
        for one in range(10):
            for other in range(10):
                things = {"e": one, "f": other}
                self.told(("plus", "e", "f"), one + other if one + other < 9 else 9, things)
                self.told(("minus", "e", "f"), one - other if one > other else 0, things)
                self.told(("less", "e", "f"), 1 if one < other else 0, things)
                self.told(("same", "e", "f"), 1 if one == other else 0, things)
                self.told(("both", "e", "f"), 0 if one == 0 or other == 0 else 1, things)

    def test_not(self):
        self.told(("not", 0), 1)
        for value in range(1, 10):
            self.told(("not", value), 0)

    def test_waits(self):
        for many, value in ((0, 0), (1, 1), (2, 1), (4, 1)):
            self.told(("waits", "b"), value, {"b": 7}, {"b": many, "c": 3})

    def test_a_word_both_ways(self):
        self.told(("plus", "a", ("waits", "a")), 6, {"a": 5}, {"a": 3})
        self.told(("plus", "a", ("waits", "a")), 0, {"a": 0}, {"a": 0})

    def test_sums_within_sums(self):
        self.told(("minus", ("plus", 9, 9), 4), 5)
        self.told(("plus", ("minus", 3, 7), 2), 2)
        self.told(("minus", 9, ("minus", 5, 3)), 7)
        self.told(("less", ("not", "a"), ("same", "a", ("plus", "b", 1))), 1, {"a": 3, "b": 2})
        self.told(("not", ("both", ("waits", "x"), ("not", ("waits", "y")))), 0, {}, {"x": 1, "y": 0})

    def test_dicts_stay(self):
        things, waiting = {"a": 1, "b": 2, "c": 3}, {"x": 1, "y": 0, "z": 2}
        tree = ("plus", ("waits", "x"), ("plus", "a", "b"))
        self.assertEqual([value_of(tree, things, waiting) for time in range(2)], [4, 4])
        self.assertEqual(things, {"a": 1, "b": 2, "c": 3})
        self.assertEqual(waiting, {"x": 1, "y": 0, "z": 2})


if __name__ == "__main__":
    unittest.main()
