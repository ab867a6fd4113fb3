"""worlds_left, is_same, first_parting and classes: points [1] and [5] to [8]."""

import copy
import itertools
import unittest

from samebuilds.errors import InvalidActs, InvalidRecipe
from samebuilds.recipes import worlds
from samebuilds.sameness import classes, first_parting, is_same, worlds_left
from tests.plain import many_acts, plain_classes, plain_is_same, plain_left, plain_parting
from tests.values import LARGE, TWO, WIDE, Strange, not_recipes, odd_values, refused, spoiled

FUNCTIONS = (worlds_left, is_same, first_parting, classes)

# The first and the last thing make no difference, the middle one does.
MIDDLE = ((("a", "b"), ("", "x"), ("c", "d")), (("sort", (("thing", 1),)), ("turn", (("thing", 2),))), (0,))


class WorldsLeft(unittest.TestCase):
    def test_the_example(self):
        self.assertEqual(worlds_left(TWO, (("pin", 1, 0),)), [(0, 0), (1, 0)])

    def test_no_acts(self):
        self.assertEqual(worlds_left(TWO, ()), [(0, 0), (0, 1), (1, 0), (1, 1)])
        self.assertEqual(worlds_left(WIDE, ()), worlds(WIDE))
        self.assertEqual(len(worlds_left(LARGE, ())), 256)

    def test_a_pin_of_one_thing(self):
        self.assertEqual(worlds_left(TWO, (("pin", 0, 0),)), [(0, 0), (0, 1)])
        self.assertEqual(worlds_left(TWO, (("pin", 0, 1),)), [(1, 0), (1, 1)])
        self.assertEqual(worlds_left(TWO, (("pin", 1, 1),)), [(0, 1), (1, 1)])
        self.assertEqual(worlds_left(WIDE, (("pin", 0, 2),)), [(2, 0, 0), (2, 1, 0)])
        self.assertEqual(worlds_left(WIDE, (("pin", 2, 0),)), worlds(WIDE))

    def test_pins_of_several_things(self):
        self.assertEqual(worlds_left(TWO, (("pin", 0, 1), ("pin", 1, 0))), [(1, 0)])
        self.assertEqual(worlds_left(WIDE, (("pin", 0, 3), ("pin", 2, 0))), [(3, 0, 0), (3, 1, 0)])
        self.assertEqual(worlds_left(WIDE, (("pin", 0, 3), ("pin", 1, 1), ("pin", 2, 0))), [(3, 1, 0)])
        self.assertEqual(worlds_left(MIDDLE, (("pin", 0, 1), ("pin", 2, 0))), [(1, 0, 0), (1, 1, 0)])

    def test_two_pins_of_one_thing_at_unlike_texts(self):
        self.assertEqual(worlds_left(TWO, (("pin", 0, 0), ("pin", 0, 1))), [])
        self.assertEqual(worlds_left(TWO, (("pin", 0, 0), ("pin", 1, 0), ("pin", 1, 1))), [])
        self.assertEqual(worlds_left(WIDE, (("hide", 0, 0), ("pin", 0, 1), ("pin", 0, 3), ("pin", 1, 0))), [])

    def test_hidings_leave_every_world(self):
        hidings = (("hide", 0, 0), ("hide", 0, 1), ("hide", 1, 0))
        for many in range(4):
            for acts in itertools.combinations(hidings, many):
                self.assertEqual(worlds_left(TWO, acts), worlds(TWO))
                self.assertEqual(worlds_left(TWO, acts + (("pin", 1, 0),)), [(0, 0), (1, 0)])

    def test_hidings_are_not_taken_for_pins(self):
        recipe = ((("a", "b"), ("c", "d")), (("sort", (("thing", 1),)), ("sort", (("thing", 1),))), (0,))
        self.assertEqual(worlds_left(recipe, (("hide", 0, 1), ("hide", 1, 1))), worlds(recipe))

    def test_a_new_list_at_every_call(self):
        for acts in ((), (("pin", 0, 1),), (("pin", 0, 0), ("pin", 0, 1))):
            first = worlds_left(TWO, acts)
            before = list(first)
            self.assertIs(type(first), list)
            first.append("more")
            self.assertEqual(worlds_left(TWO, acts), before)
            self.assertIsNot(worlds_left(TWO, acts), worlds_left(TWO, acts))

    def test_many(self):
        for recipe, acts in many_acts(300, 1):
            self.assertEqual(worlds_left(recipe, acts), plain_left(recipe, acts), (recipe, acts))


class IsSame(unittest.TestCase):
    def told(self, recipe, acts, right):
        self.assertIs(is_same(recipe, acts), right, (recipe, acts))

    def test_the_example(self):
        self.told(TWO, (("hide", 0, 1),), True)

    def test_no_acts(self):
        self.told(TWO, (), False)
        self.told(WIDE, (), False)
        self.told(((("a",),), (("sort", (("thing", 0),)),), (0,)), (), True)
        self.told(((("a", "b"),), (("same", (("thing", 0), ("thing", 0))),), (0,)), (), True)

    def test_steps_that_are_not_made_do_not_count(self):
        self.told(MIDDLE, (("pin", 1, 0),), True)
        self.told(MIDDLE[:2] + ((0, 1),), (("pin", 1, 0),), False)

    def test_every_step_of_made_counts(self):
        steps = tuple(("sort", (("thing", thing),)) for thing in range(3))
        for thing in range(3):
            things = [("a",), ("b",), ("c",)]
            things[thing] = ("c", "d")
            self.told((tuple(things), steps, (0, 1, 2)), (), False)

    def test_acts_that_leave_no_world(self):
        self.told(TWO, (("pin", 0, 0), ("pin", 0, 1)), False)
        self.told(TWO, (("hide", 0, 1), ("pin", 0, 0), ("pin", 0, 1)), False)
        constant = ((("a", "b"),), (("same", (("thing", 0), ("thing", 0))),), (0,))
        self.told(constant, (("pin", 0, 0), ("pin", 0, 1)), False)

    def test_acts_that_leave_one_world(self):
        for world in worlds(TWO):
            self.told(TWO, (("pin", 0, world[0]), ("pin", 1, world[1])), True)
        self.told(WIDE, (("pin", 0, 3), ("pin", 1, 0)), True)

    def test_pins_that_make_a_recipe_same(self):
        self.told(TWO, (("pin", 1, 0),), True)
        self.told(TWO, (("pin", 0, 0),), False)

    def test_a_hiding_that_makes_same_and_a_further_one_under_which_it_is_not(self):
        self.told(TWO, (), False)
        self.told(TWO, (("hide", 0, 1),), True)
        self.told(TWO, (("hide", 0, 1), ("hide", 1, 0)), False)
        self.told(TWO, (("hide", 0, 0), ("hide", 0, 1), ("hide", 1, 0)), True)

    def test_a_hiding_alone_under_which_it_is_not_same_any_more(self):
        recipe = ((("a", "b"),), (("sort", (("thing", 0),)), ("less", (("step", 0), ("thing", 0)))), (1,))
        self.told(recipe, (), True)
        self.told(recipe, (("hide", 1, 0),), False)
        self.told(recipe, (("hide", 0, 0), ("hide", 1, 0)), True)

    def test_one_world_of_many_is_enough(self):
        self.told(LARGE, (), False)
        self.told(LARGE, (("pin", 0, 0),), True)
        self.told(LARGE, (("pin", 0, 3), ("pin", 1, 3), ("pin", 2, 3)), False)
        self.told(LARGE, (("hide", 1, 3),), True)

    def test_many(self):
        for recipe, acts in many_acts(300, 2):
            self.told(recipe, acts, plain_is_same(recipe, acts))


class FirstParting(unittest.TestCase):
    def test_the_example(self):
        self.assertEqual(first_parting(TWO, ()), ((0, 0), (0, 1)))

    def test_none(self):
        self.assertIsNone(first_parting(TWO, (("hide", 0, 1),)))
        self.assertIsNone(first_parting(TWO, (("pin", 1, 1),)))
        self.assertIsNone(first_parting(TWO, (("pin", 0, 0), ("pin", 0, 1))))
        self.assertIsNone(first_parting(TWO, (("pin", 0, 1), ("pin", 1, 1))))

    def test_the_first_world_left_and_the_first_one_that_parts_from_it(self):
        self.assertEqual(first_parting(TWO, (("hide", 0, 1), ("hide", 1, 0))), ((0, 0), (1, 0)))
        self.assertEqual(first_parting(TWO, (("pin", 0, 1),)), ((1, 0), (1, 1)))
        self.assertEqual(first_parting(MIDDLE, ()), ((0, 0, 0), (0, 1, 0)))
        self.assertEqual(first_parting(MIDDLE, (("pin", 0, 1), ("pin", 2, 1))), ((1, 0, 1), (1, 1, 1)))
        self.assertEqual(first_parting(LARGE, ()), ((0, 0, 0, 0, 0), (3, 3, 3, 3, 0)))

    def test_the_kinds_of_values(self):
        found = first_parting(TWO, ())
        self.assertEqual([type(found)] + [type(world) for world in found], [tuple, tuple, tuple])

    def test_many(self):
        for recipe, acts in many_acts(300, 3):
            pairs = plain_parting(recipe, acts)
            self.assertEqual(first_parting(recipe, acts), min(pairs, default=None), (recipe, acts))


class Classes(unittest.TestCase):
    def test_the_example(self):
        self.assertEqual(classes(TWO, ()), [(("",), [(0, 0), (1, 0)]), (("x",), [(0, 1), (1, 1)])])

    def test_acts_that_leave_no_world(self):
        self.assertEqual(classes(TWO, (("pin", 0, 0), ("pin", 0, 1))), [])

    def test_acts_that_leave_one_world(self):
        self.assertEqual(classes(TWO, (("pin", 0, 1), ("pin", 1, 1))), [(("x",), [(1, 1)])])

    def test_same(self):
        self.assertEqual(classes(TWO, (("hide", 0, 1),)), [(("",), worlds(TWO))])

    def test_outcomes_ascend_though_the_worlds_do_not(self):
        recipe = ((("", "a", "b"),), (("same", (("thing", 0), ("thing", 0))), ("pick", (
            ("thing", 0), ("thing", 0), ("step", 0)))), (1,))
        self.assertEqual(classes(recipe, ()), [(("a",), [(1,)]), (("b",), [(2,)]), (("y",), [(0,)])])

    def test_outcomes_of_several_steps(self):
        recipe = (TWO[0], TWO[1], (0, 1))
        self.assertEqual(classes(recipe, ()), [
            (("a", ""), [(0, 0)]), (("ax", "x"), [(0, 1)]), (("b", ""), [(1, 0)]), (("bx", "x"), [(1, 1)])])
        self.assertEqual(classes(recipe, (("hide", 0, 0),)), [
            (("", ""), [(0, 0), (1, 0)]), (("x", "x"), [(0, 1), (1, 1)])])

    def test_a_class_with_worlds_that_are_not_side_by_side(self):
        recipe = ((("a", "b"), ("a", "b")), (("same", (("thing", 0), ("thing", 1))),), (0,))
        self.assertEqual(classes(recipe, ()), [(("",), [(0, 1), (1, 0)]), (("y",), [(0, 0), (1, 1)])])

    def test_the_kinds_of_values(self):
        found = classes(TWO, ())
        self.assertIs(type(found), list)
        for entry in found:
            self.assertEqual([type(entry), type(entry[0]), type(entry[1])], [tuple, tuple, list])
            self.assertEqual([type(world) for world in entry[1]], [tuple] * len(entry[1]))

    def test_new_lists_at_every_call(self):
        first = classes(TWO, ())
        first[0][1].clear()
        first.clear()
        self.assertEqual(classes(TWO, ()), [(("",), [(0, 0), (1, 0)]), (("x",), [(0, 1), (1, 1)])])

    def test_many(self):
        for recipe, acts in many_acts(300, 4):
            self.assertEqual(classes(recipe, acts), plain_classes(recipe, acts), (recipe, acts))


class Agreement(unittest.TestCase):
    def test_same_means_a_world_left_and_no_pair_and_one_class(self):
        for recipe, acts in many_acts(200, 5):
            left = worlds_left(recipe, acts)
            found = classes(recipe, acts)
            self.assertIs(is_same(recipe, acts), left != [] and first_parting(recipe, acts) is None)
            self.assertIs(is_same(recipe, acts), len(found) == 1)
            self.assertEqual(sorted(world for _, some in found for world in some), left)


class Wrong(unittest.TestCase):
    def test_what_is_not_a_recipe(self):
        for call in FUNCTIONS:
            for value in not_recipes() + odd_values() + [value for _, value in spoiled(TWO)]:
                refused(self, InvalidRecipe, call, value, ())

    def test_what_are_not_acts(self):
        acts = (("hide", 0, 1), ("pin", 0, 0))
        wrong = [(("hide", 1, 1),), (("pin", 0, 2),), (("pin", 0, 0), ("hide", 0, 0)), (("pin", 0, False),),
                 (("pin", 0, 0), ("pin", 0, 0)), [], list(acts), (("hide", True, 0),), (("pin", 0, 0, 0),)]
        for call in FUNCTIONS:
            for value in wrong + odd_values() + [value for _, value in spoiled(acts)]:
                refused(self, InvalidActs, call, TWO, value)

    def test_the_recipe_is_refused_first(self):
        for call in FUNCTIONS:
            for value in (None, [], (("pin", 9, 9),), (Strange(),)):
                refused(self, InvalidRecipe, call, TWO[:2], value)

    def test_thirteen_acts(self):
        recipe = ((("a", "b", "c", "d"), ("a", "b", "c", "d")), (("sort", (("thing", 0),)),) * 8, (0,))
        acts = tuple(("hide", step, 0) for step in range(8)) + tuple(("pin", 0, text) for text in range(4))
        for call in FUNCTIONS:
            call(recipe, acts)
            refused(self, InvalidActs, call, recipe, acts + (("pin", 1, 0),))

    def test_no_argument_is_modified(self):
        for call in FUNCTIONS:
            recipe = copy.deepcopy(WIDE)
            acts = (("hide", 0, 0), ("hide", 7, 1), ("pin", 0, 2))
            call(recipe, acts)
            self.assertEqual((recipe, acts), (WIDE, (("hide", 0, 0), ("hide", 7, 1), ("pin", 0, 2))))
            for wrong in ([[0], 1], {0: [1]}, ([0], [1]), [["pin", 0, 0]]):
                before = copy.deepcopy(wrong)
                refused(self, InvalidRecipe, call, wrong, ())
                refused(self, InvalidActs, call, TWO, wrong)
                self.assertEqual(wrong, before)


if __name__ == "__main__":
    unittest.main()
