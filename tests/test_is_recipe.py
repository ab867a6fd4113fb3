"""is_recipe: points [1] to [4]."""

import copy
import unittest

from samebuilds.recipes import is_recipe
from tests.values import TWO, WIDE, item_at, not_recipes, odd_values, places, put_at, spoiled

SORT = ("sort", (("thing", 0),))
OPERATIONS = [("join", 2), ("sort", 1), ("turn", 1), ("first", 1), ("rest", 1), ("less", 2), ("same", 2), ("pick", 3)]


def with_things(things):
    """Return a recipe, or what would be one, with these things."""
    return (things, (SORT,), (0,))


def with_steps(steps):
    """Return a recipe, or what would be one, with two things and these steps."""
    return ((("a", "b"), ("c",)), steps, (0,))


def with_made(made):
    """Return a recipe, or what would be one, with eight steps and this made."""
    return ((("a",),), (SORT,) * 8, made)


class Things(unittest.TestCase):
    def told(self, things, right):
        self.assertIs(is_recipe(with_things(things)), right, things)

    def test_the_examples(self):
        self.assertIs(is_recipe(TWO), True)
        self.assertIs(is_recipe(WIDE), True)

    def test_one_to_five_things(self):
        for many in range(8):
            self.told((("a",),) * many, 1 <= many <= 5)

    def test_one_to_four_texts_at_each_place(self):
        texts = ("", "a", "b", "c", "d", "e")
        for many in range(7):
            for at in range(3):
                things = [("a",), ("b",), ("c",)]
                things[at] = texts[:many]
                self.told(tuple(things), 1 <= many <= 4)

    def test_texts_of_at_most_four_letters(self):
        for many in range(8):
            self.told((("z" * many,),), many <= 4)
        self.told((("", "abcd", "zzzz"),), True)
        self.told((("a", "abcde"),), False)
        self.told((("a" * 1000,),), False)

    def test_letters_from_a_to_z_alone(self):
        for letter in "abcdefghijklmnopqrstuvwxyz":
            self.told(((letter,),), True)
        for letter in "AZ`{09 -_|;,\n\t\0\x7f\xe9\xdf\xaa\u0430\uff41\U0001d41a\ud800":
            for text in (letter, "a" + letter, letter + "a", "ab" + letter + "z"):
                self.told(((text,),), False)

    def test_texts_ascend_without_repetitions(self):
        self.told((("", "a", "aa", "b"),), True)
        self.told((("b", "ba", "c", "ca"),), True)
        for texts in (("b", "a"), ("a", "a"), ("a", ""), ("", ""), ("aa", "a"), ("a", "c", "b"), ("b", "a", "c"),
                      ("a", "b", "b"), ("a", "b", "a"), ("a", "b", "c", "b"), ("b", "aaaa")):
            self.told((texts,), False)
            self.told((("a", "b"), texts), False)

    def test_two_things_may_have_the_same_texts(self):
        self.told((("a", "b"), ("a", "b")), True)
        self.told((("b",), ("a",)), True)

    def test_the_product_is_at_most_256(self):
        four, three, two, one = ("a", "b", "c", "d"), ("a", "b", "c"), ("a", "b"), ("a",)
        self.told((four, four, four, four), True)
        self.told((four, four, four, four, one), True)
        self.told((four, four, four, two, two), True)
        self.told((three, three, three, three, three), True)
        self.told((two, two, two, two, two), True)
        self.told((four, four, four, four, two), False)
        self.told((one, two, four, four, four), True)
        self.told((two, four, four, four, four), False)
        self.told((four, four, four, three, two), False)
        self.told((four, four, four, four, four), False)
        self.told((four, four, three, three, two), False)
        self.told((four, four, three, three, one), True)


class Steps(unittest.TestCase):
    def told(self, steps, right):
        self.assertIs(is_recipe(with_steps(steps)), right, steps)

    def test_one_to_eight_steps(self):
        for many in range(11):
            self.told((SORT,) * many, 1 <= many <= 8)

    def test_each_operation_with_as_many_readings_as_it_has(self):
        for operation, takes in OPERATIONS:
            for many in range(6):
                for reading in (("thing", 1), ("step", 0)):
                    self.told((SORT, (operation, (reading,) * many)), many == takes)

    def test_an_unknown_operation(self):
        for word in ("", "Join", "join ", "joins", "sorts", "last", "thing", "step", "made", "jo", "turn\n"):
            for many in range(4):
                self.told(((word, (("thing", 0),) * many),), False)

    def test_readings_of_things(self):
        for number in range(-3, 5):
            self.told((("sort", (("thing", number),)),), number in (0, 1))
            self.told((SORT, ("join", (("thing", 0), ("thing", number)))), number in (0, 1))
            self.told((SORT, ("pick", (("thing", 0), ("thing", number), ("step", 0)))), number in (0, 1))

    def test_readings_of_earlier_steps_alone(self):
        for at in range(4):
            for number in range(-5, 6):
                steps = [SORT] * 4
                steps[at] = ("turn", (("step", number),))
                self.told(tuple(steps), 0 <= number < at)
                steps[at] = ("same", (("thing", 0), ("step", number)))
                self.told(tuple(steps), 0 <= number < at)

    def test_the_last_of_eight_steps_may_read_the_seventh(self):
        chain = [SORT] + [("rest", (("step", at),)) for at in range(7)]
        self.told(tuple(chain), True)
        chain[7] = ("rest", (("step", 7),))
        self.told(tuple(chain), False)

    def test_other_words_in_readings(self):
        for word in ("", "Thing", "things", "steps", "s", "t", "text", "made", "sort", "thing ", "hide", "pin"):
            self.told((SORT, ("sort", ((word, 0),))), False)

    def test_readings_of_another_length(self):
        for reading in ((), ("thing",), ("thing", 0, 0), ("step", 0, 1), (0, "thing"), ("thing", "0")):
            self.told((SORT, ("sort", (reading,))), False)

    def test_steps_of_another_length(self):
        for step in ((), ("sort",), ("sort", (("thing", 0),), ()), ((("thing", 0),), "sort"), ("sort", "thing", 0)):
            self.told((SORT, step), False)

    def test_a_reading_that_is_not_in_a_tuple(self):
        self.told((("sort", ("thing", 0)),), False)
        self.told((("join", ("thing", 0)),), False)

    def test_true_and_false_are_no_numbers(self):
        for number in (True, False):
            self.told((SORT, SORT, ("sort", (("thing", number),))), False)
            self.told((SORT, SORT, ("sort", (("step", number),))), False)


class Made(unittest.TestCase):
    def told(self, made, right):
        self.assertIs(is_recipe(with_made(made)), right, made)

    def test_one_to_three_numbers(self):
        for many in range(9):
            self.told(tuple(range(many)), 1 <= many <= 3)

    def test_numbers_of_steps(self):
        for number in range(-9, 12):
            self.told((number,), 0 <= number < 8)
            self.told((0, number), 0 < number < 8)

    def test_made_ascends_without_repetitions(self):
        self.told((2, 5, 7), True)
        for made in ((1, 0), (3, 3), (0, 2, 1), (1, 0, 2), (0, 1, 1), (0, 0, 1), (7, 6, 5), (0, 1, 0)):
            self.told(made, False)

    def test_true_and_false_are_no_numbers(self):
        for made in ((True,), (False,), (False, True), (0, True), (False, 1), (True, 2)):
            self.told(made, False)

    def test_every_step_may_be_unread_and_not_made(self):
        self.assertIs(is_recipe(((("a",), ("b",)), (SORT, SORT), (0,))), True)


class OtherKinds(unittest.TestCase):
    def test_values_that_are_no_recipes(self):
        for value in not_recipes() + odd_values():
            self.assertIs(is_recipe(value), False, repr(value)[:200])

    def test_another_kind_at_every_place(self):
        for recipe in (TWO, WIDE):
            for path, value in spoiled(recipe):
                self.assertIs(is_recipe(value), False, (path, repr(value)[:500]))

    def test_right_strings_and_numbers_at_wrong_places(self):
        for path in places(TWO):
            for new in ("first", 5, 8, ("step", 1), (("thing", 0),), TWO[0], TWO[1]):
                if item_at(TWO, path) != new:
                    self.assertIs(is_recipe(put_at(TWO, path, new)), False, (path, new))

    def test_no_argument_is_modified(self):
        for value in ([[["a"]], [["sort", [["thing", 0]]]], [0]], {0: [1]}, TWO, ((["a"],), (SORT,), [0])):
            before = copy.deepcopy(value)
            is_recipe(value)
            self.assertEqual(value, before)


if __name__ == "__main__":
    unittest.main()
