"""hangs_on, step_hangs_on and hanging_pair: points [1] and [13]."""

import copy
import itertools
import time
import unittest

from samebuilds.errors import InvalidActs, InvalidNumber, InvalidRecipe, InvalidStep
from samebuilds.hanging import hanging_pair, hangs_on, step_hangs_on
from samebuilds.sameness import is_same, worlds_left
from tests.plain import many_acts, plain_hanging, plain_outcome, plain_texts
from tests.values import LARGE, TWO, WIDE, Strange, not_recipes, odd_values, refused, spoiled

NO_WORLD = (("pin", 0, 0), ("pin", 0, 1))
CONSTANT = ((("a", "b"),), (("same", (("thing", 0), ("thing", 0))),), (0,))

# Whether both things have the same text, of three; thing 2 has one text alone.
EQUAL = ((("a", "b", "c"), ("a", "b", "c"), ("q",)), (
    ("same", (("thing", 0), ("thing", 1))), ("join", (("step", 0), ("thing", 2)))), (1,))

# The outcome hangs on thing 1 in worlds alone in which the text of thing 0 is not empty.
CHOICE = ((("", "n", "o"), ("a", "b"), ("c", "d")), (
    ("pick", (("thing", 0), ("thing", 1), ("thing", 2))), ("first", (("thing", 0),))), (0,))

WRONG_ACTS = [
    None, [], (("hide", 1, 1),), (("pin", 0, 2),), (("pin", 0, 0), ("hide", 0, 0)), (("pin", 0, False),),
    (("pin", 0, 0), ("pin", 0, 0)), [("pin", 0, 0)], (["pin", 0, 0],), (Strange(),),
]
WRONG_NUMBERS = [-1, -2, 2, 3, 99, True, False, None, "0", "", (), (0,), [0], b"0", {}, 1j, Strange()]


class HangsOn(unittest.TestCase):
    def test_the_example(self):
        self.assertEqual(hangs_on(TWO, ()), [1])

    def test_under_acts_of_the_example(self):
        self.assertEqual(hangs_on(TWO, (("hide", 0, 1),)), [])
        self.assertEqual(hangs_on(TWO, (("hide", 1, 0),)), [0, 1])
        self.assertEqual(hangs_on(TWO, (("hide", 0, 1), ("hide", 1, 0))), [0])
        self.assertEqual(hangs_on(TWO, (("pin", 1, 0),)), [])
        self.assertEqual(hangs_on(TWO, (("pin", 0, 1),)), [1])
        self.assertEqual(hangs_on(TWO, (("hide", 1, 0), ("pin", 1, 1))), [0])

    def test_acts_that_leave_no_world(self):
        self.assertEqual(hangs_on(TWO, NO_WORLD), [])
        self.assertEqual(hangs_on(TWO, (("hide", 1, 0),) + NO_WORLD), [])

    def test_acts_that_leave_one_world(self):
        for one, other in itertools.product(range(2), range(2)):
            self.assertEqual(hangs_on(TWO, (("hide", 1, 0), ("pin", 0, one), ("pin", 1, other))), [])

    def test_acts_that_leave_all_worlds(self):
        self.assertEqual(hangs_on(CHOICE, ()), [0, 1, 2])
        self.assertEqual(hangs_on(CHOICE, (("hide", 1, 0),)), [0, 1, 2])
        self.assertEqual(hangs_on(CHOICE, (("hide", 0, 0),)), [2])
        self.assertEqual(hangs_on(CHOICE, (("hide", 0, 2),)), [0, 1])
        self.assertEqual(hangs_on(CONSTANT, ()), [])

    def test_worlds_that_are_not_left_do_not_count(self):
        self.assertEqual(hangs_on(CHOICE, (("pin", 0, 0),)), [2])
        self.assertEqual(hangs_on(CHOICE, (("pin", 0, 1),)), [1])
        self.assertEqual(hangs_on(CHOICE, (("pin", 1, 1),)), [0, 2])
        self.assertEqual(hangs_on(CHOICE, (("pin", 1, 1), ("pin", 2, 0))), [0])

    def test_a_thing_with_one_text(self):
        self.assertEqual(hangs_on(EQUAL, ()), [0, 1])
        self.assertEqual(hangs_on(((("a",),), (("sort", (("thing", 0),)),), (0,)), ()), [])

    def test_one_world_of_many_is_enough(self):
        self.assertEqual(hangs_on(LARGE, ()), [0, 1, 2, 3])
        self.assertEqual(hangs_on(LARGE, (("pin", 3, 3),)), [0, 1, 2])
        self.assertEqual(hangs_on(LARGE, (("pin", 3, 2),)), [])

    def test_any_step_of_made(self):
        recipe = (TWO[0], TWO[1], (0, 1))
        self.assertEqual(hangs_on(recipe, ()), [0, 1])
        self.assertEqual(hangs_on(recipe, (("hide", 0, 0),)), [1])

    def test_many(self):
        for recipe, acts in many_acts(250, 50):
            expected = [thing for thing in range(len(recipe[0])) if plain_hanging(recipe, acts, thing, plain_outcome)]
            self.assertEqual(hangs_on(recipe, acts), expected, (recipe, acts))

    def test_a_recipe_is_same_if_and_only_if_its_outcome_hangs_on_no_thing(self):
        for recipe, acts in many_acts(250, 51):
            if worlds_left(recipe, acts):
                self.assertIs(is_same(recipe, acts), hangs_on(recipe, acts) == [], (recipe, acts))
            else:
                self.assertIs(is_same(recipe, acts), False)
                self.assertEqual(hangs_on(recipe, acts), [])


class StepHangsOn(unittest.TestCase):
    def test_the_example(self):
        self.assertEqual(step_hangs_on(TWO, (), 0), [0, 1])

    def test_a_thing_on_which_a_step_hangs_and_the_outcome_does_not(self):
        self.assertEqual(step_hangs_on(TWO, (), 1), [1])
        self.assertEqual(hangs_on(TWO, ()), [1])
        self.assertEqual(step_hangs_on(CHOICE, (), 1), [0])
        self.assertEqual(step_hangs_on(CHOICE, (("hide", 0, 0),), 1), [0])
        self.assertEqual(hangs_on(CHOICE, (("hide", 0, 0),)), [2])

    def test_under_acts(self):
        self.assertEqual(step_hangs_on(TWO, (("hide", 0, 1),), 0), [0])
        self.assertEqual(step_hangs_on(TWO, (("hide", 0, 0), ("hide", 0, 1)), 0), [])
        self.assertEqual(step_hangs_on(TWO, (("pin", 0, 1),), 0), [1])
        self.assertEqual(step_hangs_on(TWO, (("hide", 1, 0),), 1), [0, 1])

    def test_acts_that_leave_no_world_and_one_world(self):
        for step in range(2):
            self.assertEqual(step_hangs_on(TWO, NO_WORLD, step), [])
            self.assertEqual(step_hangs_on(TWO, (("pin", 0, 1), ("pin", 1, 1)), step), [])

    def test_a_thing_with_one_text(self):
        for step in range(2):
            self.assertEqual(step_hangs_on(EQUAL, (), step), [0, 1])
        for step in range(8):
            self.assertNotIn(2, step_hangs_on(WIDE, (), step))

    def test_many(self):
        for recipe, acts in many_acts(120, 52):
            for step in range(len(recipe[1])):
                def text(recipe, acts, world):
                    return plain_texts(recipe, acts, world)[step]
                expected = [thing for thing in range(len(recipe[0])) if plain_hanging(recipe, acts, thing, text)]
                self.assertEqual(step_hangs_on(recipe, acts, step), expected, (recipe, acts, step))

    def test_a_step_that_is_not_there(self):
        for step in WRONG_NUMBERS + odd_values():
            refused(self, InvalidStep, step_hangs_on, TWO, (), step)
        for recipe in (TWO, WIDE, CONSTANT):
            for step in range(-10, 12):
                if 0 <= step < len(recipe[1]):
                    step_hangs_on(recipe, (), step)
                else:
                    refused(self, InvalidStep, step_hangs_on, recipe, (), step)


class HangingPair(unittest.TestCase):
    def test_the_example(self):
        self.assertEqual(hanging_pair(TWO, (), 1), ((0, 0), (0, 1)))

    def test_worlds_that_are_unlike_in_more_than_one_thing_do_not_count(self):
        self.assertIsNone(hanging_pair(TWO, (), 0))
        self.assertEqual(hanging_pair(EQUAL, (), 0), ((0, 0, 0), (1, 0, 0)))
        self.assertEqual(hanging_pair(EQUAL, (), 1), ((0, 0, 0), (0, 1, 0)))

    def test_a_thing_with_one_text(self):
        self.assertIsNone(hanging_pair(EQUAL, (), 2))

    def test_acts_that_leave_no_world_and_one_world(self):
        for thing in range(2):
            self.assertIsNone(hanging_pair(TWO, NO_WORLD, thing))
            self.assertIsNone(hanging_pair(TWO, (("pin", 0, 0), ("pin", 1, 0)), thing))

    def test_the_first_pair(self):
        self.assertEqual(hanging_pair(CHOICE, (), 0), ((0, 0, 0), (1, 0, 0)))
        self.assertEqual(hanging_pair(CHOICE, (), 1), ((1, 0, 0), (1, 1, 0)))
        self.assertEqual(hanging_pair(CHOICE, (), 2), ((0, 0, 0), (0, 0, 1)))
        self.assertEqual(hanging_pair(CHOICE, (("pin", 1, 1),), 2), ((0, 1, 0), (0, 1, 1)))
        self.assertEqual(hanging_pair(LARGE, (), 3), ((3, 3, 3, 0, 0), (3, 3, 3, 3, 0)))

    def test_the_first_world_before_the_nearest_other_one(self):
        # The text "b" is turned into another outcome, "a" and "c" are not.
        recipe = ((("a", "b", "c"), ("b",)), (("same", (("thing", 0), ("thing", 1))),), (0,))
        self.assertEqual(hanging_pair(recipe, (), 0), ((0, 0), (1, 0)))
        recipe = ((("a", "b", "c"), ("c",)), (("same", (("thing", 0), ("thing", 1))),), (0,))
        self.assertEqual(hanging_pair(recipe, (), 0), ((0, 0), (2, 0)))

    def test_the_kinds_of_values(self):
        found = hanging_pair(TWO, (), 1)
        self.assertEqual([type(found)] + [type(world) for world in found], [tuple, tuple, tuple])

    def test_many(self):
        for recipe, acts in many_acts(250, 53):
            for thing in range(len(recipe[0])):
                pairs = plain_hanging(recipe, acts, thing, plain_outcome)
                self.assertEqual(hanging_pair(recipe, acts, thing), min(pairs, default=None), (recipe, acts, thing))

    def test_a_pair_is_there_if_and_only_if_the_outcome_hangs_on_the_thing(self):
        for recipe, acts in many_acts(100, 54):
            found = [thing for thing in range(len(recipe[0])) if hanging_pair(recipe, acts, thing) is not None]
            self.assertEqual(hangs_on(recipe, acts), found)

    def test_a_thing_that_is_not_there(self):
        for thing in WRONG_NUMBERS + odd_values():
            refused(self, InvalidNumber, hanging_pair, TWO, (), thing)
        for recipe in (TWO, WIDE, CONSTANT, LARGE):
            for thing in range(-7, 9):
                if 0 <= thing < len(recipe[0]):
                    hanging_pair(recipe, (), thing)
                else:
                    refused(self, InvalidNumber, hanging_pair, recipe, (), thing)


class Wrong(unittest.TestCase):
    def test_the_recipe_is_refused_first(self):
        for recipe in not_recipes() + odd_values() + [value for _, value in spoiled(TWO)]:
            for acts in ((), None):
                refused(self, InvalidRecipe, hangs_on, recipe, acts)
                for number in (0, True, 9):
                    refused(self, InvalidRecipe, step_hangs_on, recipe, acts, number)
                    refused(self, InvalidRecipe, hanging_pair, recipe, acts, number)

    def test_the_acts_are_refused_second(self):
        for acts in WRONG_ACTS + odd_values() + [value for _, value in spoiled((("hide", 0, 1), ("pin", 0, 0)))]:
            refused(self, InvalidActs, hangs_on, TWO, acts)
            for number in (0, True, 9):
                refused(self, InvalidActs, step_hangs_on, TWO, acts, number)
                refused(self, InvalidActs, hanging_pair, TWO, acts, number)

    def test_the_number_is_refused_even_if_no_world_is_left(self):
        refused(self, InvalidStep, step_hangs_on, TWO, NO_WORLD, 2)
        refused(self, InvalidNumber, hanging_pair, TWO, NO_WORLD, 2)

    def test_new_lists_at_every_call(self):
        first = hangs_on(TWO, ())
        self.assertIs(type(first), list)
        first.append(7)
        self.assertEqual(hangs_on(TWO, ()), [1])
        first = step_hangs_on(TWO, (), 0)
        self.assertIs(type(first), list)
        first.append(7)
        self.assertEqual(step_hangs_on(TWO, (), 0), [0, 1])

    def test_a_recipe_with_256_worlds_within_a_few_seconds(self):
        began = time.perf_counter()
        hangs_on(LARGE, ())
        for number in range(5):
            hanging_pair(LARGE, (), number)
            step_hangs_on(LARGE, (), number)
        self.assertLess(time.perf_counter() - began, 30)

    def test_no_argument_is_modified(self):
        acts = (("hide", 0, 0), ("hide", 7, 1), ("pin", 0, 2))
        recipe, before = copy.deepcopy((WIDE, acts))
        hangs_on(recipe, acts)
        step_hangs_on(recipe, acts, 5)
        hanging_pair(recipe, acts, 1)
        self.assertEqual((recipe, acts), (WIDE, before))
        for wrong in ([[0], 1], {0: [1]}, [["pin", 0, 0]]):
            before = copy.deepcopy(wrong)
            refused(self, InvalidRecipe, hangs_on, wrong, ())
            refused(self, InvalidActs, hangs_on, TWO, wrong)
            refused(self, InvalidStep, step_hangs_on, TWO, (), wrong)
            refused(self, InvalidNumber, hanging_pair, TWO, (), wrong)
            self.assertEqual(wrong, before)


if __name__ == "__main__":
    unittest.main()
