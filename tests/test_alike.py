"""are_alike and parting_world: points [1] and [16]."""

import copy
import itertools
import random
import time
import unittest

from samebuilds.alike import are_alike, parting_world
from samebuilds.errors import InvalidRecipe, Unlike
from samebuilds.making import outcome
from samebuilds.recipes import worlds
from tests.plain import many_acts, plain_outcome, plain_worlds, some_recipe, some_recipe_of
from tests.values import LARGE, TWO, WIDE, Strange, not_recipes, odd_values, refused, spoiled

FUNCTIONS = (are_alike, parting_world)

THINGS = (("a", "b", "ba"), ("", "x"))


def of_one_step(operation, *reads):
    """Return the recipe of THINGS with this step alone."""
    return (THINGS, ((operation, reads),), (0,))


class Alike(unittest.TestCase):
    def told(self, one, other, world):
        """Let the test fail unless the two part in this world first, or are alike if it is None."""
        for values in (one, other), (other, one):
            self.assertIs(are_alike(*values), world is None, values)
            self.assertEqual(parting_world(*values), world, values)

    def test_the_examples(self):
        self.assertIs(are_alike(TWO, TWO), True)
        self.assertIsNone(parting_world(TWO, TWO))

    def test_a_recipe_and_itself(self):
        for recipe in (TWO, WIDE, LARGE, of_one_step("sort", ("thing", 0))):
            self.told(recipe, recipe, None)

    def test_an_operation_alone(self):
        # In no world has the text of thing 1 a second letter, and "first" is nothing else there than "sort".
        self.told(of_one_step("first", ("thing", 1)), of_one_step("sort", ("thing", 1)), None)
        self.told(of_one_step("turn", ("thing", 1)), of_one_step("sort", ("thing", 1)), None)
        self.told(of_one_step("first", ("thing", 1)), of_one_step("rest", ("thing", 1)), (0, 1))
        self.told(of_one_step("sort", ("thing", 0)), of_one_step("turn", ("thing", 0)), None)
        self.told(of_one_step("first", ("thing", 0)), of_one_step("sort", ("thing", 0)), (2, 0))

    def test_a_reading_alone(self):
        equal = (("a", "b"), ("a", "b"))
        one = (equal, (("same", (("thing", 0), ("thing", 1))),), (0,))
        self.told(one, (equal, (("same", (("thing", 1), ("thing", 0))),), (0,)), None)
        self.told(one, (equal, (("same", (("thing", 1), ("thing", 1))),), (0,)), (0, 1))
        self.told(of_one_step("sort", ("thing", 0)), of_one_step("sort", ("thing", 1)), (0, 0))

    def test_things_that_are_the_same_but_for_their_numbers_are_not_enough(self):
        equal = (("a", "b"), ("a", "b"))
        self.told((equal, (("sort", (("thing", 0),)),), (0,)), (equal, (("sort", (("thing", 1),)),), (0,)), (0, 1))

    def test_the_first_world_of_several(self):
        one = of_one_step("join", ("thing", 0), ("thing", 1))
        self.told(one, of_one_step("join", ("thing", 1), ("thing", 0)), (0, 1))
        self.told(one, of_one_step("sort", ("thing", 0)), (0, 1))
        self.told(one, of_one_step("less", ("thing", 0), ("thing", 0)), (0, 0))

    def test_recipes_that_part_in_the_last_world_alone(self):
        things, steps, made = LARGE
        never = (things, steps[:3] + (("less", (("step", 2), ("step", 2))),), made)
        self.told(LARGE, never, (3, 3, 3, 3, 0))

    def test_other_steps_and_another_number_of_steps(self):
        # In all worlds, the outcome of TWO is the text of thing 1.
        self.told(TWO, (TWO[0], (("sort", (("thing", 1),)),), (0,)), None)
        self.told(TWO, (TWO[0], TWO[1] + (("join", (("step", 0), ("step", 0))),), (1,)), None)
        self.told(TWO, (TWO[0], TWO[1] + (("join", (("step", 1), ("step", 1))),), (2,)), (0, 1))
        self.told(TWO, (TWO[0], TWO[1], (0,)), (0, 0))

    def test_each_step_of_made_counts(self):
        steps = (("sort", (("thing", 0),)), ("turn", (("thing", 0),)), ("sort", (("thing", 1),)))
        self.told((THINGS, steps, (0, 2)), (THINGS, steps, (1, 2)), None)
        self.told((THINGS, steps, (0, 1)), (THINGS, steps, (1, 2)), (0, 0))
        self.told((THINGS, steps, (0, 1)), (THINGS, steps, (0, 2)), (0, 0))

    def test_outcomes_are_equal_only_text_by_text(self):
        things = (("a", "ab"), ("b", "bb"))
        swapped = (("sort", (("thing", 0),)), ("sort", (("thing", 1),)), ("sort", (("thing", 0),)))
        self.told((things, swapped, (0, 1)), (things, swapped, (1, 2)), (0, 0))

    def test_many(self):
        chance = random.Random(80)
        alike = 0
        for _ in range(300):
            one = some_recipe(chance)
            other = some_recipe_of(chance, one[0], 3)
            if len(one[2]) == len(other[2]):
                parting = [world for world in plain_worlds(one)
                           if plain_outcome(one, (), world) != plain_outcome(other, (), world)]
                self.told(one, other, parting[0] if parting else None)
                alike += not parting
        self.assertGreater(alike, 5)

    def test_the_outcomes_are_unlike_in_the_parting_world_and_in_no_world_ahead_of_it(self):
        chance = random.Random(81)
        for _ in range(100):
            one = some_recipe(chance)
            other = some_recipe_of(chance, one[0])
            if len(one[2]) == len(other[2]):
                parting = parting_world(one, other)
                for world in worlds(one):
                    if parting is None or world < parting:
                        self.assertEqual(outcome(one, (), world), outcome(other, (), world))
                if parting is not None:
                    self.assertNotEqual(outcome(one, (), parting), outcome(other, (), parting))

    def test_many_worlds_within_a_few_seconds(self):
        began = time.process_time()
        self.told(LARGE, LARGE, None)
        self.assertLess(time.process_time() - began, 3)


class Wrong(unittest.TestCase):
    def unlike(self, one, other):
        for call in FUNCTIONS:
            refused(self, Unlike, call, one, other)
            refused(self, Unlike, call, other, one)

    def test_other_things(self):
        for things in ((("a", "b"),), (("a", "b"), ("",)), (("a", "b"), ("", "y")), (("a",), ("", "x")),
                       (("a", "b"), ("", "x"), ("",)), (("a", "b"), ("", "x", "y")), (("a", "bb"), ("", "x"))):
            self.unlike(TWO, (things, (("sort", (("thing", 0),)),), (0,)))

    def test_the_same_things_in_another_sequence(self):
        self.unlike(TWO, (TWO[0][::-1], TWO[1], (1,)))
        self.unlike(TWO, (TWO[0][::-1], (("sort", (("thing", 0),)),), (0,)))

    def test_another_number_of_steps_in_made(self):
        self.unlike(TWO, (TWO[0], TWO[1], (0, 1)))
        steps = TWO[1] + (("sort", (("thing", 1),)),)
        self.unlike(TWO, (TWO[0], steps, (0, 2)))
        self.unlike(TWO, (TWO[0], steps, (0, 1, 2)))
        self.unlike((TWO[0], steps, (0, 2)), (TWO[0], steps, (0, 1, 2)))

    def test_as_many_steps_in_made_are_not_unlike_whichever_they_are(self):
        for call in FUNCTIONS:
            for numbers in ((0,), (1,), (2,)):
                call(TWO, (TWO[0], TWO[1] + TWO[1][:1], numbers))

    def test_each_of_the_two_recipes_is_refused_ahead_of_unlike(self):
        other = (TWO[0][:1], (("sort", (("thing", 0),)),), (0,))
        for call in FUNCTIONS:
            for value in not_recipes() + odd_values() + [value for _, value in spoiled(TWO)]:
                for right in (TWO, other):
                    refused(self, InvalidRecipe, call, value, right)
                    refused(self, InvalidRecipe, call, right, value)
                refused(self, InvalidRecipe, call, value, value)
                refused(self, InvalidRecipe, call, value, Strange())
                refused(self, InvalidRecipe, call, Strange(), value)

    def test_many_pairs_with_other_things(self):
        some = [recipe for recipe, _ in many_acts(40, 82)]
        for one, other in itertools.combinations(some, 2):
            if one[0] != other[0] or len(one[2]) != len(other[2]):
                self.unlike(one, other)

    def test_no_argument_is_modified(self):
        for call in FUNCTIONS:
            values = copy.deepcopy((TWO, TWO))
            call(*values)
            self.assertEqual(values, (TWO, TWO))
            for wrong in (list(TWO), [[0], 1], {0: [1]}):
                before = copy.deepcopy(wrong)
                refused(self, InvalidRecipe, call, wrong, TWO)
                refused(self, InvalidRecipe, call, TWO, wrong)
                self.assertEqual(wrong, before)


if __name__ == "__main__":
    unittest.main()
