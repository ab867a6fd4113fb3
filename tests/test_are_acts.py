"""are_acts: points [1] and [6]."""

import copy
import unittest

from samebuilds.errors import InvalidRecipe
from samebuilds.recipes import are_acts
from tests.values import Strange, TWO, WIDE, nested, not_recipes, odd_values, places, put_at, spoiled

ALL_OF_TWO = (("hide", 0, 0), ("hide", 0, 1), ("hide", 1, 0), ("pin", 0, 0), ("pin", 0, 1), ("pin", 1, 0), ("pin", 1, 1))
ALL_OF_WIDE = (
    ("hide", 0, 0), ("hide", 3, 1), ("hide", 5, 1), ("hide", 6, 0), ("hide", 7, 1), ("pin", 0, 0), ("pin", 0, 1),
    ("pin", 0, 2), ("pin", 0, 3), ("pin", 1, 0), ("pin", 1, 1), ("pin", 2, 0),
)

# Sixteen acts: eight hidings and eight pins.
MANY = ((("a", "b", "c", "d"), ("a", "b", "c", "d")), (("sort", (("thing", 0),)),) * 8, (0,))
ALL_OF_MANY = tuple(("hide", step, 0) for step in range(8)) + tuple(
    ("pin", thing, text) for thing in range(2) for text in range(4))


class Acts(unittest.TestCase):
    def told(self, recipe, acts, right):
        self.assertIs(are_acts(recipe, acts), right, acts)

    def test_the_example(self):
        self.told(TWO, (("hide", 1, 1),), False)

    def test_the_empty_tuple(self):
        self.told(TWO, (), True)
        self.told(WIDE, (), True)

    def test_pins(self):
        for thing in range(-2, 4):
            for text in range(-2, 4):
                self.told(TWO, (("pin", thing, text),), 0 <= thing <= 1 and 0 <= text <= 1)

    def test_pins_of_things_with_unlike_numbers_of_texts(self):
        for thing in range(-1, 5):
            for text in range(-5, 6):
                right = 0 <= thing <= 2 and 0 <= text < (4, 2, 1)[thing]
                self.told(WIDE, (("pin", thing, text),), right)

    def test_hidings(self):
        for step in range(-3, 4):
            for thing in range(-3, 4):
                right = (step, thing) in [(0, 0), (0, 1), (1, 0)]
                self.told(TWO, (("hide", step, thing),), right)

    def test_hidings_of_what_a_step_itself_reads(self):
        for step in range(-8, 10):
            for thing in range(-3, 5):
                right = (step, thing) in [(0, 0), (3, 1), (5, 1), (6, 0), (7, 1)]
                self.told(WIDE, (("hide", step, thing),), right)

    def test_a_step_with_the_number_of_the_thing_is_no_reading_of_it(self):
        steps = (("sort", (("thing", 1),)), ("sort", (("step", 0),)), ("join", (("step", 1), ("step", 0))))
        recipe = ((("a",), ("b",)), steps, (2,))
        for step in range(3):
            for thing in range(2):
                self.told(recipe, (("hide", step, thing),), (step, thing) == (0, 1))

    def test_a_step_that_reads_a_thing_twice_has_one_such_act(self):
        recipe = ((("a", "b"),), (("pick", (("thing", 0), ("thing", 0), ("thing", 0))),), (0,))
        self.told(recipe, (("hide", 0, 0),), True)
        self.told(recipe, (("hide", 0, 0), ("hide", 0, 0)), False)

    def test_several_acts(self):
        self.told(TWO, ALL_OF_TWO, True)
        self.told(WIDE, ALL_OF_WIDE, True)
        for acts in (ALL_OF_TWO, ALL_OF_WIDE):
            recipe = TWO if acts == ALL_OF_TWO else WIDE
            for start in range(len(acts)):
                for end in range(start, len(acts) + 1):
                    self.told(recipe, acts[start:end], True)

    def test_two_pins_of_one_thing_are_acts(self):
        self.told(TWO, (("pin", 0, 0), ("pin", 0, 1)), True)

    def test_at_most_twelve(self):
        for many in range(17):
            self.told(MANY, ALL_OF_MANY[:many], many <= 12)
            self.told(MANY, ALL_OF_MANY[16 - many:], many <= 12)

    def test_not_ascending(self):
        for one in range(len(ALL_OF_TWO)):
            for other in range(len(ALL_OF_TWO)):
                self.told(TWO, (ALL_OF_TWO[one], ALL_OF_TWO[other]), one < other)
        self.told(TWO, ALL_OF_TWO[::-1], False)
        self.told(TWO, (("hide", 0, 0), ("pin", 1, 0), ("pin", 0, 0)), False)
        self.told(TWO, (("hide", 0, 1), ("hide", 0, 0), ("pin", 1, 0)), False)

    def test_a_repetition(self):
        for act in ALL_OF_TWO:
            self.told(TWO, (act, act), False)
        self.told(TWO, (("hide", 0, 0), ("pin", 0, 0), ("pin", 0, 0)), False)
        self.told(TWO, (("hide", 0, 0), ("hide", 0, 0), ("pin", 0, 0)), False)

    def test_one_wrong_act_among_right_ones(self):
        for at in range(len(ALL_OF_TWO)):
            for wrong in (("hide", 1, 1), ("pin", 0, 2), ("pin", 2, 0), ("hide", 2, 0), ("pin", 0, True), ("pin", 0)):
                self.told(TWO, ALL_OF_TWO[:at] + (wrong,) + ALL_OF_TWO[at + 1:], False)

    def test_other_words(self):
        for word in ("", "Pin", "pins", "hid", "hides", "thing", "step", "h", "p", "pin ", "x" * 100):
            self.told(TWO, ((word, 0, 0),), False)

    def test_true_and_false_are_no_numbers(self):
        for word in ("pin", "hide"):
            for numbers in ((True, 0), (False, 0), (0, True), (0, False), (True, True), (False, False)):
                self.told(TWO, ((word,) + numbers,), False)


class OtherKinds(unittest.TestCase):
    def test_another_kind_in_place_of_the_acts(self):
        wrong = odd_values() + [list(ALL_OF_TWO), set(ALL_OF_TWO), dict.fromkeys(ALL_OF_TWO), "pin", ("pin", 0, 0)]
        for value in wrong + [[], {}, nested(30, tuple), nested(30, list), TWO]:
            self.assertIs(are_acts(TWO, value), False, repr(value)[:200])

    def test_another_kind_at_every_place(self):
        for recipe, acts in ((TWO, ALL_OF_TWO), (WIDE, ALL_OF_WIDE), (TWO, (("pin", 0, 0),)), (TWO, (("hide", 0, 0),))):
            for path, value in spoiled(acts):
                self.assertIs(are_acts(recipe, value), False, (path, repr(value)[:500]))

    def test_acts_of_another_length(self):
        for act in ((), ("pin",), ("pin", 0), ("pin", 0, 0, 0), ("hide", 0), ("hide", 0, 0, 0), (0, 0, "pin")):
            self.assertIs(are_acts(TWO, (act,)), False)

    def test_right_values_at_wrong_places(self):
        for path in places(ALL_OF_TWO)[1:]:
            for new in ("thing", 2, ("pin", 2, 0), ALL_OF_TWO, TWO):
                self.assertIs(are_acts(TWO, put_at(ALL_OF_TWO, path, new)), False, (path, new))

    def test_thirteen_values_that_cannot_be_compared(self):
        self.assertIs(are_acts(TWO, (Strange(),) * 13), False)
        self.assertIs(are_acts(TWO, (None, "a", 3, [], {}) * 3), False)

    def test_what_is_not_a_recipe(self):
        for value in not_recipes() + odd_values() + [value for _, value in spoiled(TWO)]:
            with self.assertRaises(InvalidRecipe):
                are_acts(value, ())

    def test_the_recipe_is_checked_even_if_the_acts_are_wrong_too(self):
        for value in (None, [], (None,), (("pin", 9, 9),), ALL_OF_TWO * 2):
            with self.assertRaises(InvalidRecipe):
                are_acts(TWO[:2], value)

    def test_no_argument_is_modified(self):
        for value in (ALL_OF_TWO, [["pin", 0, 0]], (["pin", 0, 0], ["hide", 1, 0]), {"pin": [0]}):
            recipe = copy.deepcopy(TWO)
            before = copy.deepcopy(value)
            are_acts(recipe, value)
            self.assertEqual(recipe, TWO)
            self.assertEqual(value, before)


if __name__ == "__main__":
    unittest.main()
