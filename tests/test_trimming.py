"""constant_steps, unused_steps, models and trimmed: points [1] and [16]."""

import copy
import random
import time
import unittest

from samebuilds.alike import are_alike
from samebuilds.errors import InvalidRecipe
from samebuilds.making import texts_in
from samebuilds.recipes import is_recipe, worlds
from samebuilds.trimming import constant_steps, models, trimmed, unused_steps
from tests.plain import plain_column, plain_models, plain_trimmed, plain_unused, some_recipe, some_recipe_of
from tests.values import LARGE, TWO, WIDE, not_recipes, odd_values, refused, spoiled

FUNCTIONS = (constant_steps, unused_steps, models, trimmed)
LISTING = (constant_steps, unused_steps, models)

TRIMMED_TWO = (
    (('a', 'b'), ('', 'x')),
    (('join', (('thing', 0), ('thing', 1))), ('less', (('step', 0), ('thing', 0)))),
    (1,),
)

THINGS = (("a", "b"), ("ab", "ba"), ("",))

# Step 1 makes by another operation what step 0 makes. The steps that are made lean on step 1; only steps 3 and 4, on
# which none of these leans, lean on step 0.
PAIR = (THINGS, (
    ("turn", (("thing", 0),)),
    ("sort", (("thing", 0),)),
    ("join", (("step", 1), ("thing", 1))),
    ("join", (("step", 0), ("step", 1))),
    ("rest", (("step", 3),)),
    ("join", (("step", 1), ("step", 2))),
), (2, 5))


def many_recipes(count, seed):
    """Return so many recipes, the same at every call; in half of them things have few texts, and steps are alike."""
    chance = random.Random(seed)
    found = [some_recipe(chance) for _ in range(count // 2)]
    while len(found) < count:
        things = tuple(tuple(sorted(chance.sample(("", "a", "b", "ab"), chance.randint(1, 2)))) for _ in range(2))
        found.append(some_recipe_of(chance, things, 8))
    return found


class Constant(unittest.TestCase):
    def test_the_example(self):
        self.assertEqual(constant_steps(TWO), [])

    def test_steps_that_read_things_and_are_constant_all_the_same(self):
        recipe = (THINGS, (
            ("same", (("thing", 0), ("thing", 0))), ("sort", (("thing", 1),)), ("less", (("thing", 0), ("thing", 0))),
            ("first", (("thing", 1),)), ("same", (("thing", 0), ("thing", 1))),
        ), (4,))
        self.assertEqual(constant_steps(recipe), [0, 1, 2, 4])

    def test_things_with_one_text(self):
        self.assertEqual(constant_steps((THINGS, (("turn", (("thing", 2),)), ("turn", (("thing", 1),))), (0,))), [0])
        one = ((("a",), ("b",)), (("join", (("thing", 0), ("thing", 1))), ("sort", (("step", 0),))), (1,))
        self.assertEqual(constant_steps(one), [0, 1])

    def test_steps_whose_text_differs_in_one_world_alone(self):
        self.assertEqual(constant_steps(LARGE), [])
        for text in ("a", "b", "d"):
            things = (("a", "b", "c", "d"), (text,))
            self.assertEqual(constant_steps((things, (("same", (("thing", 0), ("thing", 1))),), (0,))), [])

    def test_used_and_unused_ones(self):
        recipe = (THINGS, (("sort", (("thing", 1),)), ("sort", (("thing", 1),)), ("sort", (("thing", 0),))), (1,))
        self.assertEqual(constant_steps(recipe), [0, 1])

    def test_many(self):
        for recipe in many_recipes(200, 90):
            expected = [step for step in range(len(recipe[1])) if len(set(plain_column(recipe, step))) == 1]
            self.assertEqual(constant_steps(recipe), expected, recipe)


class Unused(unittest.TestCase):
    def test_the_example(self):
        self.assertEqual(unused_steps(TWO), [])

    def test_steps_on_which_only_unused_ones_lean(self):
        self.assertEqual(unused_steps(PAIR), [0, 3, 4])
        self.assertEqual(unused_steps((THINGS, PAIR[1], (4,))), [2, 5])
        self.assertEqual(unused_steps((THINGS, PAIR[1], (0,))), [1, 2, 3, 4, 5])
        self.assertEqual(unused_steps((THINGS, PAIR[1], (1,))), [0, 2, 3, 4, 5])
        self.assertEqual(unused_steps(LARGE), [4, 5, 6, 7])

    def test_chains(self):
        chain = (("sort", (("thing", 0),)),) + tuple(("turn", (("step", at),)) for at in range(7))
        for last in range(8):
            self.assertEqual(unused_steps((THINGS, chain, (last,))), list(range(last + 1, 8)))
        self.assertEqual(unused_steps((THINGS, chain, (0, 3, 6))), [7])

    def test_steps_in_made_are_never_unused(self):
        steps = tuple(("sort", (("thing", 0),)) for _ in range(8))
        self.assertEqual(unused_steps((THINGS, steps, (0, 3, 7))), [1, 2, 4, 5, 6])
        self.assertEqual(unused_steps((THINGS, steps[:3], (0, 1, 2))), [])
        self.assertEqual(unused_steps((THINGS, steps[:1], (0,))), [])

    def test_a_step_that_is_used_though_the_outcome_does_not_hang_on_it(self):
        recipe = (THINGS, (("sort", (("thing", 0),)), ("less", (("step", 0), ("step", 0)))), (1,))
        self.assertEqual(unused_steps(recipe), [])

    def test_readings_at_each_place(self):
        steps = tuple(("sort", (("thing", 0),)) for _ in range(4))
        for at in range(3):
            reads = tuple(("step", 2) if place == at else ("thing", 0) for place in range(3))
            self.assertEqual(unused_steps((THINGS, steps + (("pick", reads),), (4,))), [0, 1, 3])

    def test_the_reading_of_a_thing_is_none_of_the_step_with_its_number(self):
        recipe = (THINGS, (("sort", (("thing", 0),)), ("sort", (("thing", 0),)), ("sort", (("thing", 1),))), (2,))
        self.assertEqual(unused_steps(recipe), [0, 1])

    def test_many(self):
        for recipe in many_recipes(300, 91):
            self.assertEqual(unused_steps(recipe), plain_unused(recipe), recipe)


class Models(unittest.TestCase):
    def test_the_example(self):
        self.assertEqual(models(TWO), [0, 1])

    def test_steps_with_the_same_text_by_unlike_operations(self):
        self.assertEqual(models(PAIR), [0, 0, 2, 3, 0, 5])

    def test_the_first_of_several(self):
        steps = tuple((word, (("thing", 0),)) for word in ("rest", "turn", "sort", "first", "rest", "sort"))
        self.assertEqual(models((THINGS, steps, (5,))), [0, 1, 1, 1, 0, 1])

    def test_each_step_is_its_own_model(self):
        for recipe in (TWO, LARGE, WIDE):
            found = models(recipe)
            for step, model in enumerate(found):
                self.assertLessEqual(model, step)
                self.assertEqual(found[model], model)
        self.assertEqual(models(LARGE)[:4], [0, 1, 2, 3])

    def test_the_texts_are_the_same_in_all_worlds(self):
        # The letters of thing 1 are sorted in one of its texts, and turned in the other one.
        recipe = (THINGS, tuple((word, (("thing", 1),)) for word in ("sort", "turn", "sort")), (2,))
        self.assertEqual(models(recipe), [0, 1, 0])
        # Unlike in the last world alone.
        things, steps, made = LARGE
        never = ("less", (("step", 2), ("step", 2)))
        self.assertEqual(models((things, steps[:4] + (never, never), made)), [0, 1, 2, 3, 4, 4])

    def test_the_same_texts_in_another_sequence_of_worlds(self):
        recipe = ((("a", "b"), ("a", "b")), (("sort", (("thing", 0),)), ("sort", (("thing", 1),))), (0,))
        self.assertEqual(models(recipe), [0, 1])

    def test_unused_steps_and_steps_of_made_have_models_too(self):
        steps = (("sort", (("thing", 0),)), ("turn", (("thing", 0),)), ("first", (("thing", 0),)))
        for made in ((0,), (1,), (2,), (0, 2), (1, 2), (0, 1, 2)):
            self.assertEqual(models((THINGS, steps, made)), [0, 0, 0])

    def test_many(self):
        for recipe in many_recipes(200, 92):
            self.assertEqual(models(recipe), plain_models(recipe), recipe)


class Trimmed(unittest.TestCase):
    def test_the_example(self):
        self.assertEqual(trimmed(TWO), TRIMMED_TWO)
        self.assertEqual(repr(trimmed(TWO)), repr(TRIMMED_TWO))

    def test_a_reading_is_replaced_and_the_step_left_out(self):
        self.assertEqual(trimmed(PAIR), (THINGS, (
            ("turn", (("thing", 0),)),
            ("join", (("step", 0), ("thing", 1))),
            ("join", (("step", 0), ("step", 1))),
        ), (1, 2)))

    def test_a_step_of_made_with_an_earlier_model_stays(self):
        steps = (("sort", (("thing", 0),)), ("turn", (("thing", 0),)), ("join", (("step", 1), ("step", 0))))
        self.assertEqual(trimmed((THINGS, steps, (1,))), (THINGS, steps[1:2], (0,)))
        # Step 2 reads the model of the step of made, which stays beside it.
        expected = steps[:2] + (("join", (("step", 0), ("step", 0))),)
        self.assertEqual(trimmed((THINGS, steps, (1, 2))), (THINGS, expected, (1, 2)))
        self.assertEqual(trimmed((THINGS, steps, (0, 1))), (THINGS, steps[:2], (0, 1)))
        self.assertEqual(trimmed((THINGS, steps, (2,))), (THINGS, (steps[0], expected[2]), (1,)))

    def test_the_numbers_of_the_steps_that_stay(self):
        sort = ("sort", (("thing", 1),))
        join = ("join", (("thing", 0), ("thing", 1)))
        steps = (sort, join, sort, ("turn", (("step", 1),)), sort, ("pick", (("step", 3), ("step", 1), ("thing", 2))),
                 sort, ("join", (("step", 5), ("step", 3))))
        self.assertEqual(trimmed((THINGS, steps, (3, 7))), (THINGS, (
            join, ("turn", (("step", 0),)), ("join", (("step", 0), ("step", 1))),
        ), (1, 2)))
        self.assertEqual(trimmed((THINGS, steps, (5,))), (THINGS, (
            join, ("turn", (("step", 0),)), ("pick", (("step", 1), ("step", 0), ("thing", 2))),
        ), (2,)))
        self.assertEqual(trimmed((THINGS, steps, (6,))), (THINGS, (sort,), (0,)))

    def test_numbers_of_things_stay(self):
        recipe = (THINGS, (("sort", (("thing", 2),)), ("sort", (("thing", 1),)), ("sort", (("thing", 0),)),
                           ("join", (("step", 2), ("thing", 1)))), (3,))
        self.assertEqual(trimmed(recipe), (THINGS, (
            ("sort", (("thing", 0),)), ("join", (("step", 0), ("thing", 1)))), (1,)))

    def test_steps_are_unused_once_their_readings_are_replaced(self):
        # Step 2 has the text of step 0, and the steps that it leans on are read by it alone.
        steps = (("sort", (("thing", 0),)), ("turn", (("thing", 1),)), ("less", (("step", 0), ("step", 1))),
                 ("join", (("step", 0), ("step", 0))), ("pick", (("step", 3), ("step", 0), ("step", 1))),
                 ("join", (("step", 4), ("thing", 1))))
        self.assertEqual(models((THINGS, steps, (5,))), [0, 1, 2, 3, 0, 5])
        self.assertEqual(trimmed((THINGS, steps, (5,))), (THINGS, (
            steps[0], ("join", (("step", 0), ("thing", 1)))), (1,)))

    def test_readings_of_things_with_the_same_texts_stay(self):
        things = (("a", "b"), ("a", "b"), ("a",))
        recipe = (things, (("join", (("thing", 2), ("thing", 1))), ("same", (("step", 0), ("thing", 0)))), (1,))
        self.assertEqual(trimmed(recipe), recipe)

    def test_constant_steps_stay(self):
        recipe = (THINGS, (("sort", (("thing", 1),)), ("join", (("step", 0), ("thing", 0)))), (1,))
        self.assertEqual(trimmed(recipe), recipe)

    def test_what_the_trimmed_recipe_is(self):
        for recipe in many_recipes(300, 93):
            found = trimmed(recipe)
            self.assertIs(is_recipe(found), True)
            self.assertIs(are_alike(recipe, found), True)
            self.assertEqual(unused_steps(found), [])
            own = models(found)
            for _, reads in found[1]:
                for word, number in reads:
                    self.assertTrue(word == "thing" or own[number] == number, recipe)
            self.assertEqual(trimmed(found), found)
            self.assertEqual(len(found[2]), len(recipe[2]))

    def test_the_texts_of_the_steps_of_made_stay(self):
        for recipe in many_recipes(60, 94):
            found = trimmed(recipe)
            for world in worlds(recipe):
                texts, others = texts_in(recipe, (), world), texts_in(found, (), world)
                self.assertEqual([texts[step] for step in recipe[2]], [others[step] for step in found[2]])

    def test_many(self):
        shorter = 0
        for recipe in many_recipes(400, 95):
            found = trimmed(recipe)
            self.assertEqual(found, plain_trimmed(recipe), recipe)
            shorter += len(found[1]) < len(recipe[1]) - len(unused_steps(recipe))
        self.assertGreater(shorter, 20)

    def test_many_worlds_within_a_few_seconds(self):
        began = time.process_time()
        found = trimmed(LARGE)
        self.assertLess(time.process_time() - began, 3)
        self.assertEqual(found, (LARGE[0], LARGE[1][:4], (3,)))


class All(unittest.TestCase):
    def test_new_lists_at_every_call(self):
        for call in LISTING:
            first = call(PAIR)
            self.assertIs(type(first), list)
            expected = list(first)
            first.append(99)
            self.assertEqual(call(PAIR), expected)

    def test_what_is_no_recipe(self):
        for call in FUNCTIONS:
            for value in not_recipes() + odd_values() + [value for _, value in spoiled(TWO)]:
                refused(self, InvalidRecipe, call, value)

    def test_no_argument_is_modified(self):
        for call in FUNCTIONS:
            for recipe in (TWO, PAIR, LARGE, WIDE):
                before = copy.deepcopy(recipe)
                call(recipe)
                self.assertEqual(recipe, before)
            for wrong in (list(TWO), [[0], 1], {0: [1]}):
                before = copy.deepcopy(wrong)
                refused(self, InvalidRecipe, call, wrong)
                self.assertEqual(wrong, before)


if __name__ == "__main__":
    unittest.main()
