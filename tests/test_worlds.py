"""worlds: points [1] and [5]."""

import copy
import itertools
import unittest

from samebuilds.errors import InvalidRecipe
from samebuilds.recipes import worlds
from tests.values import TWO, WIDE, not_recipes, odd_values, spoiled

TEXTS = ("a", "b", "c", "d")


def recipe_of(counts):
    """Return a recipe with things of so many texts each."""
    return (tuple(TEXTS[:many] for many in counts), (("sort", (("thing", 0),)),), (0,))


class Worlds(unittest.TestCase):
    def test_the_example(self):
        self.assertEqual(worlds(TWO), [(0, 0), (0, 1), (1, 0), (1, 1)])

    def test_one_thing(self):
        self.assertEqual(worlds(recipe_of((1,))), [(0,)])
        self.assertEqual(worlds(recipe_of((4,))), [(0,), (1,), (2,), (3,)])

    def test_a_thing_with_one_text(self):
        self.assertEqual(worlds(recipe_of((1, 2))), [(0, 0), (0, 1)])
        self.assertEqual(worlds(recipe_of((2, 1))), [(0, 0), (1, 0)])
        self.assertEqual(worlds(recipe_of((2, 1, 3))),
                         [(0, 0, 0), (0, 0, 1), (0, 0, 2), (1, 0, 0), (1, 0, 1), (1, 0, 2)])

    def test_all_once_and_ascending(self):
        for counts in itertools.product(range(1, 4), range(1, 5), range(1, 3)):
            expected = [(a, b, c) for a in range(counts[0]) for b in range(counts[1]) for c in range(counts[2])]
            self.assertEqual(worlds(recipe_of(counts)), expected)

    def test_at_the_bound_of_256(self):
        for counts in ((4, 4, 4, 4), (4, 4, 4, 2, 2), (1, 4, 4, 4, 4), (2, 4, 2, 4, 4)):
            found = worlds(recipe_of(counts))
            self.assertEqual(len(found), 256)
            self.assertEqual(found, sorted(set(found)))
            for world in found:
                self.assertEqual(len(world), len(counts))
                for number, many in zip(world, counts):
                    self.assertTrue(0 <= number < many)

    def test_the_kinds_of_values(self):
        found = worlds(WIDE)
        self.assertIs(type(found), list)
        for world in found:
            self.assertIs(type(world), tuple)
            for number in world:
                self.assertIs(type(number), int)

    def test_a_new_list_at_every_call(self):
        first = worlds(TWO)
        self.assertIsNot(first, worlds(TWO))
        first.append("more")
        first[0] = None
        self.assertEqual(worlds(TWO), [(0, 0), (0, 1), (1, 0), (1, 1)])

    def test_what_is_not_a_recipe(self):
        for value in not_recipes() + odd_values() + [value for _, value in spoiled(TWO)]:
            with self.assertRaises(InvalidRecipe):
                worlds(value)

    def test_a_product_beyond_256(self):
        for counts in ((4, 4, 4, 4, 2), (4, 4, 4, 3, 2), (4, 4, 4, 4, 4)):
            with self.assertRaises(InvalidRecipe):
                worlds(recipe_of(counts))

    def test_no_argument_is_modified(self):
        for value in (TWO, WIDE):
            before = copy.deepcopy(value)
            worlds(value)
            self.assertEqual(value, before)
        value = [[["a"]], [["sort", [["thing", 0]]]], [0]]
        with self.assertRaises(InvalidRecipe):
            worlds(value)
        self.assertEqual(value, [[["a"]], [["sort", [["thing", 0]]]], [0]])


if __name__ == "__main__":
    unittest.main()
