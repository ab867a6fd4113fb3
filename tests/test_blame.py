"""changing_sets and restoring_sets: points [1] and [14]."""

import copy
import itertools
import unittest

from samebuilds.blame import changing_sets, restoring_sets
from samebuilds.errors import InvalidRecipe, InvalidWorld
from samebuilds.making import outcome
from samebuilds.recipes import worlds
from tests.plain import many_acts, plain_changing, plain_restoring
from tests.values import TWO, WIDE, Strange, not_recipes, odd_values, refused, spoiled

FUNCTIONS = (changing_sets, restoring_sets)

# The outcome is whether things 0 and 2 have the texts "a" and "c", unless the text of thing 1 is not empty.
EITHER = ((("a", "b"), ("", "x"), ("c", "d"), ("ac",), ("y",)), (
    ("join", (("thing", 0), ("thing", 2))),
    ("same", (("step", 0), ("thing", 3))),
    ("pick", (("thing", 1), ("thing", 4), ("step", 1))),
), (2,))

# The outcome is "y" if things 0 and 1 have the same text.
EQUAL = ((("a", "b", "c"), ("a", "b", "c"), ("q", "r")), (("same", (("thing", 0), ("thing", 1))),), (0,))

# The outcome is the texts of all five things.
ALL = ((("a", "b"),) * 5, (("join", (("thing", 0), ("thing", 1))), ("join", (("step", 0), ("thing", 2))),
                           ("join", (("step", 1), ("thing", 3))), ("join", (("step", 2), ("thing", 4)))), (3,))

WRONG_WORLDS = [(), (0,), (0, 0, 0), (0, 2), (2, 0), (-1, 0), [0, 0], (True, 0), (0, False), ("a", "x"), "ax", None]


class Checked(unittest.TestCase):
    def told(self, recipe, world, other, changing, restoring):
        self.assertEqual(changing_sets(recipe, world, other), changing, (recipe, world, other))
        self.assertEqual(restoring_sets(recipe, world, other), restoring, (recipe, world, other))


class Sets(Checked):
    def test_the_examples(self):
        self.assertEqual(changing_sets(TWO, (0, 0), (1, 1)), [(1,)])
        self.assertEqual(restoring_sets(TWO, (0, 0), (1, 0)), [()])

    def test_all_worlds_of_the_example(self):
        for world, other in itertools.product(worlds(TWO), worlds(TWO)):
            if world[1] == other[1]:
                self.told(TWO, world, other, [], [()])
            else:
                self.told(TWO, world, other, [(1,)], [(1,)])

    def test_from_a_world_to_itself(self):
        for recipe in (TWO, WIDE, EITHER, EQUAL, ALL):
            for world in worlds(recipe):
                self.told(recipe, world, world, [], [()])

    def test_worlds_with_equal_outcomes(self):
        # Each change alone makes another outcome, both together do not.
        self.told(EQUAL, (0, 0, 0), (1, 1, 0), [(0,), (1,)], [()])
        self.told(EQUAL, (0, 0, 0), (1, 1, 1), [(0,), (1,)], [()])
        self.told(EQUAL, (0, 0, 0), (0, 0, 1), [], [()])
        self.told(EQUAL, (0, 1, 0), (0, 2, 0), [], [()])
        self.told(EQUAL, (0, 1, 0), (1, 0, 0), [(0,), (1,)], [()])

    def test_worlds_with_unlike_outcomes(self):
        self.told(EQUAL, (0, 0, 0), (0, 1, 0), [(1,)], [(1,)])
        self.told(EQUAL, (0, 0, 0), (1, 2, 0), [(0,), (1,)], [(0, 1)])
        self.told(EQUAL, (1, 2, 0), (0, 0, 0), [(0, 1)], [(0,), (1,)])
        self.told(EQUAL, (1, 2, 0), (0, 0, 1), [(0, 1)], [(0,), (1,)])

    def test_several_least_sets_of_unlike_lengths(self):
        # The first list is ascending in the order of tuples, not of lengths.
        self.told(EITHER, (1, 0, 1, 0, 0), (0, 1, 0, 0, 0), [(0, 2), (1,)], [(0, 1), (1, 2)])
        self.told(EITHER, (0, 1, 0, 0, 0), (1, 0, 1, 0, 0), [(0, 1), (1, 2)], [(0, 2), (1,)])

    def test_least_sets_alone(self):
        for world, other in ((0,) * 5, (1,) * 5), ((1,) * 5, (0,) * 5):
            self.told(ALL, world, other, [(0,), (1,), (2,), (3,), (4,)], [(0, 1, 2, 3, 4)])
        self.told(ALL, (0, 0, 0, 0, 0), (0, 1, 0, 1, 1), [(1,), (3,), (4,)], [(1, 3, 4)])
        self.told(ALL, (0, 1, 0, 1, 1), (0, 0, 1, 0, 1), [(1,), (2,), (3,)], [(1, 2, 3)])

    def test_only_things_with_unlike_texts_in_both_worlds(self):
        for recipe in (EITHER, EQUAL, ALL):
            for world, other in itertools.product(worlds(recipe)[:12], worlds(recipe)[-12:]):
                unlike = [at for at in range(len(world)) if world[at] != other[at]]
                for call in FUNCTIONS:
                    for things in call(recipe, world, other):
                        self.assertLessEqual(set(things), set(unlike))
                        self.assertEqual(list(things), sorted(set(things)))

    def test_no_least_set_contains_another_one(self):
        for recipe, _ in many_acts(60, 60):
            for world, other in itertools.product(worlds(recipe)[:6], worlds(recipe)[-6:]):
                for call in FUNCTIONS:
                    found = call(recipe, world, other)
                    self.assertEqual(found, sorted(set(found)))
                    for one, two in itertools.permutations(found, 2):
                        self.assertFalse(set(one) <= set(two))

    def test_the_empty_set_restores_if_and_only_if_the_outcomes_are_equal(self):
        for recipe, _ in many_acts(60, 61):
            for world, other in itertools.product(worlds(recipe)[:6], worlds(recipe)[-6:]):
                equal = outcome(recipe, (), world) == outcome(recipe, (), other)
                self.assertIs(restoring_sets(recipe, world, other) == [()], equal)
                self.assertNotIn((), changing_sets(recipe, world, other))
                self.assertNotEqual(restoring_sets(recipe, world, other), [])

    def test_many(self):
        for recipe, _ in many_acts(150, 62):
            for world, other in itertools.product(worlds(recipe)[:5], worlds(recipe)[-5:]):
                self.told(recipe, world, other, plain_changing(recipe, world, other),
                          plain_restoring(recipe, world, other))

    def test_many_pairs_of_worlds_of_some_recipes(self):
        for recipe in (EITHER, EQUAL, WIDE):
            for world, other in itertools.product(worlds(recipe), worlds(recipe)):
                self.told(recipe, world, other, plain_changing(recipe, world, other),
                          plain_restoring(recipe, world, other))

    def test_new_lists_at_every_call(self):
        for call in FUNCTIONS:
            first = call(TWO, (0, 0), (1, 1))
            self.assertEqual([type(first), type(first[0])], [list, tuple])
            first.clear()
            self.assertEqual(call(TWO, (0, 0), (1, 1)), [(1,)])


class Wrong(unittest.TestCase):
    def test_the_recipe_is_refused_first(self):
        for call in FUNCTIONS:
            for recipe in not_recipes() + odd_values() + [value for _, value in spoiled(TWO)]:
                for world, other in itertools.product(((0, 0), None), repeat=2):
                    refused(self, InvalidRecipe, call, recipe, world, other)

    def test_each_of_the_two_worlds(self):
        for call in FUNCTIONS:
            for value in WRONG_WORLDS + odd_values() + [value for _, value in spoiled((0, 0))]:
                refused(self, InvalidWorld, call, TWO, value, (0, 0))
                refused(self, InvalidWorld, call, TWO, (0, 0), value)
                refused(self, InvalidWorld, call, TWO, (1, 1), value)
                refused(self, InvalidWorld, call, TWO, value, None)
                refused(self, InvalidWorld, call, TWO, value, Strange())

    def test_worlds_with_numbers_out_of_range(self):
        for world in itertools.product(range(-2, 6), range(-2, 4), range(-1, 3)):
            right = 0 <= world[0] < 4 and 0 <= world[1] < 2 and world[2] == 0
            for call in FUNCTIONS:
                for values in ((WIDE, world, (0, 0, 0)), (WIDE, (0, 0, 0), world)):
                    if right:
                        call(*values)
                    else:
                        refused(self, InvalidWorld, call, *values)

    def test_no_argument_is_modified(self):
        for call in FUNCTIONS:
            values = copy.deepcopy((EITHER, (1, 0, 1, 0, 0), (0, 1, 0, 0, 0)))
            call(*values)
            self.assertEqual(values, (EITHER, (1, 0, 1, 0, 0), (0, 1, 0, 0, 0)))
            for wrong in ([0, 0], [[0], 1], {0: [1]}):
                before = copy.deepcopy(wrong)
                refused(self, InvalidRecipe, call, wrong, (0, 0), (0, 0))
                refused(self, InvalidWorld, call, TWO, wrong, (0, 0))
                refused(self, InvalidWorld, call, TWO, (0, 0), wrong)
                self.assertEqual(wrong, before)


if __name__ == "__main__":
    unittest.main()
