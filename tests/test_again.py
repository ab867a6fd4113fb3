"""made_again, count_runs and least_runs: points [1], [14] and [15]."""

import copy
import itertools
import time
import unittest

from samebuilds.again import count_runs, least_runs, made_again
from samebuilds.errors import InvalidRecipe, InvalidWorld, InvalidWorlds
from samebuilds.making import texts_in
from samebuilds.recipes import worlds
from tests.plain import many_acts, plain_again, plain_least_runs, plain_runs, plain_runs_one_by_one
from tests.values import LARGE, TWO, WIDE, Strange, not_recipes, odd_values, refused, spoiled

LISTED = (count_runs, least_runs)

# The texts "ab" and "ba" have the same letters: step 0 has the text "ab" whichever of them it reads, so step 1, which
# leans on thing 0, reads "ab" always; step 2 has the text "" in all worlds.
SORTED = ((("ab", "ba", "c"), ("", "x")), (
    ("sort", (("thing", 0),)),
    ("turn", (("step", 0),)),
    ("same", (("thing", 0), ("thing", 1))),
    ("join", (("step", 2), ("step", 1))),
), (3,))

# Steps 0 and 1 have the same operation and read the same texts, step 2 reads both.
TWINS = ((("a", "b"),), (("turn", (("thing", 0),)), ("turn", (("thing", 0),)), ("join", (("step", 0), ("step", 1)))),
         (2,))

# Each of the things alone changes as many readings as there are steps that read it: 3, 2 and 1.
STAIRS = ((("a", "b"),) * 3, (
    ("pick", (("thing", 0), ("thing", 1), ("thing", 2))), ("same", (("thing", 0), ("thing", 1))),
    ("first", (("thing", 0),)),
), (0,))

WRONG_WORLDS = [(), (0,), (0, 0, 0), (0, 2), (2, 0), (-1, 0), [0, 0], (True, 0), (0, False), ("a", "x"), "ax", None]


def wrong_lists():
    """Return values that are no lists of 1 to 5 worlds of TWO."""
    return [[world] for world in WRONG_WORLDS] + [[(0, 0), world] for world in WRONG_WORLDS] + [
        [], [(0, 0)] * 6, [(0, 0)] * 7, worlds(TWO) * 2, ((0, 0),), ((0, 0), (0, 1)), (), (0, 0), [0, 0], [[(0, 0)]],
        {(0, 0): 1}, {(0, 0)}, frozenset([(0, 0)]), {0: (0, 0)}, iter([(0, 0)]), "ax", [(0, 0)] * 4 + [(0, 2)],
        [(0, 0), Strange()], Strange(),
    ]


class MadeAgain(unittest.TestCase):
    def test_the_example(self):
        self.assertEqual(made_again(TWO, (0, 0), (0, 1)), [0, 1])

    def test_all_worlds_of_the_example(self):
        for world, other in itertools.product(worlds(TWO), worlds(TWO)):
            self.assertEqual(made_again(TWO, world, other), [] if world == other else [0, 1])

    def test_from_a_world_to_itself(self):
        for recipe in (TWO, WIDE, SORTED, TWINS, STAIRS):
            for world in worlds(recipe):
                self.assertEqual(made_again(recipe, world, world), [])

    def test_a_step_whose_own_text_stays_though_its_readings_have_other_texts(self):
        self.assertEqual(texts_in(SORTED, (), (0, 0)), texts_in(SORTED, (), (1, 0)))
        self.assertEqual(made_again(SORTED, (0, 0), (1, 0)), [0, 2])
        self.assertEqual(made_again(SORTED, (1, 0), (0, 0)), [0, 2])
        self.assertEqual(made_again(SORTED, (1, 0), (1, 1)), [2])

    def test_a_step_none_of_whose_readings_has_another_text(self):
        # Step 1 leans on thing 0, and reads a step whose text stays.
        self.assertNotIn(1, made_again(SORTED, (0, 0), (1, 1)))
        self.assertNotIn(3, made_again(SORTED, (0, 0), (1, 1)))
        self.assertEqual(made_again(SORTED, (0, 0), (2, 0)), [0, 1, 2, 3])

    def test_one_reading_with_another_text_is_enough(self):
        self.assertEqual(made_again(STAIRS, (0, 0, 0), (1, 0, 0)), [0, 1, 2])
        self.assertEqual(made_again(STAIRS, (0, 0, 0), (0, 1, 0)), [0, 1])
        self.assertEqual(made_again(STAIRS, (0, 0, 0), (0, 0, 1)), [0])
        self.assertEqual(made_again(STAIRS, (0, 1, 0), (0, 1, 1)), [0])

    def test_texts_of_the_readings_that_change_places(self):
        self.assertEqual(made_again(STAIRS, (0, 1, 0), (1, 0, 0)), [0, 1, 2])

    def test_a_thing_that_no_step_reads(self):
        recipe = ((("a",), ("b", "c")), (("sort", (("thing", 0),)),), (0,))
        self.assertEqual(made_again(recipe, (0, 0), (0, 1)), [])

    def test_steps_that_are_not_made_are_told_too(self):
        recipe = (STAIRS[0], STAIRS[1], (2,))
        self.assertEqual(made_again(recipe, (0, 0, 0), (0, 0, 1)), [0])

    def test_the_text_of_a_step_that_is_not_made_again_stays(self):
        for recipe, _ in many_acts(80, 70):
            for world, other in itertools.product(worlds(recipe)[:6], worlds(recipe)[-6:]):
                texts, others = texts_in(recipe, (), world), texts_in(recipe, (), other)
                again = made_again(recipe, world, other)
                for step in range(len(recipe[1])):
                    self.assertTrue(step in again or texts[step] == others[step])

    def test_many(self):
        for recipe, _ in many_acts(120, 71):
            for world, other in itertools.product(worlds(recipe)[:6], worlds(recipe)[-6:]):
                self.assertEqual(made_again(recipe, world, other), plain_again(recipe, world, other))
                self.assertEqual(made_again(recipe, world, other), made_again(recipe, other, world))

    def test_a_new_list_at_every_call(self):
        first = made_again(TWO, (0, 0), (0, 1))
        self.assertIs(type(first), list)
        first.clear()
        self.assertEqual(made_again(TWO, (0, 0), (0, 1)), [0, 1])

    def test_the_recipe_is_refused_first(self):
        for recipe in not_recipes() + odd_values() + [value for _, value in spoiled(TWO)]:
            for world, other in itertools.product(((0, 0), None), repeat=2):
                refused(self, InvalidRecipe, made_again, recipe, world, other)

    def test_each_of_the_two_worlds(self):
        for value in WRONG_WORLDS + odd_values() + [value for _, value in spoiled((0, 0))]:
            refused(self, InvalidWorld, made_again, TWO, value, (0, 0))
            refused(self, InvalidWorld, made_again, TWO, (1, 1), value)
            refused(self, InvalidWorld, made_again, TWO, value, value)
            refused(self, InvalidWorld, made_again, TWO, value, Strange())
            refused(self, InvalidWorld, made_again, TWO, Strange(), value)


class CountRuns(unittest.TestCase):
    def test_the_example(self):
        self.assertEqual(count_runs(TWO, [(0, 0), (0, 1), (0, 0)]), 4)

    def test_one_world_needs_as_many_runs_as_there_are_steps(self):
        for recipe in (TWO, WIDE, SORTED, TWINS, STAIRS):
            for world in worlds(recipe):
                self.assertEqual(count_runs(recipe, [world]), len(recipe[1]))

    def test_a_world_given_several_times_needs_no_further_run(self):
        for recipe in (TWO, WIDE, SORTED, TWINS, STAIRS):
            for world in worlds(recipe):
                self.assertEqual(count_runs(recipe, [world] * 5), len(recipe[1]))
        self.assertEqual(count_runs(TWO, [(0, 0), (0, 1)]), 4)
        self.assertEqual(count_runs(TWO, [(0, 0), (0, 1), (0, 1), (0, 0), (0, 1)]), 4)

    def test_two_steps_that_do_the_same_are_two(self):
        self.assertEqual(count_runs(TWINS, [(0,)]), 3)
        self.assertEqual(count_runs(TWINS, [(0,), (1,)]), 6)
        one = ((("a",),), (("sort", (("thing", 0),)),) * 4, (3,))
        self.assertEqual(count_runs(one, [(0,)]), 4)

    def test_results_are_kept_by_all_texts_that_are_read(self):
        # Step 3 reads the same in the worlds with the first two texts of thing 0, step 2 never.
        self.assertEqual(count_runs(SORTED, [(0, 0), (1, 0)]), 6)
        self.assertEqual(count_runs(SORTED, [(0, 0), (1, 1)]), 6)
        self.assertEqual(count_runs(SORTED, [(0, 0), (2, 0)]), 8)
        # Step 0 reads other texts in each world, step 1 in two pairs of them, step 2 in two of them.
        self.assertEqual(count_runs(STAIRS, [(0, 0, 0), (0, 0, 1), (1, 0, 0), (1, 0, 1)]), 4 + 2 + 2)

    def test_the_sequence_of_the_texts_that_are_read_counts(self):
        recipe = ((("a", "b"), ("a", "b")), (("same", (("thing", 0), ("thing", 1))),), (0,))
        self.assertEqual(count_runs(recipe, [(0, 1), (1, 0)]), 2)
        joined = ((("a", "aa"), ("a", "aa")), (("join", (("thing", 0), ("thing", 1))),), (0,))
        self.assertEqual(count_runs(joined, [(0, 1), (1, 0)]), 2)

    def test_a_result_of_an_earlier_world_than_the_last_one_is_there(self):
        some = [(0, 0, 0), (1, 0, 0), (0, 0, 0), (1, 0, 0)]
        self.assertEqual(count_runs(STAIRS, some), 6)
        self.assertEqual(plain_runs_one_by_one(STAIRS, some), 12)

    def test_the_number_is_the_same_in_every_sequence(self):
        for recipe, _ in many_acts(25, 72):
            some = (worlds(recipe)[:3] + worlds(recipe)[-2:])[:5]
            found = {count_runs(recipe, list(sequence)) for sequence in itertools.permutations(some)}
            self.assertEqual(found, {plain_runs(recipe, some)})

    def test_many(self):
        for recipe, _ in many_acts(150, 73):
            there = worlds(recipe)
            for many in range(1, 6):
                some = [there[at * at % len(there)] for at in range(many)]
                self.assertEqual(count_runs(recipe, some), plain_runs(recipe, some))


class LeastRuns(unittest.TestCase):
    def test_the_example(self):
        self.assertEqual(least_runs(TWO, [(0, 0), (0, 1), (0, 0)]), (4, (0, 2, 1)))

    def test_one_world(self):
        for recipe in (TWO, WIDE, SORTED, TWINS, STAIRS):
            for world in worlds(recipe):
                self.assertEqual(least_runs(recipe, [world]), (len(recipe[1]), (0,)))

    def test_equal_worlds(self):
        for many in range(1, 6):
            self.assertEqual(least_runs(TWO, [(1, 1)] * many), (2, tuple(range(many))))
            self.assertEqual(least_runs(SORTED, [(2, 0)] * many), (4, tuple(range(many))))

    def test_the_first_of_several_sequences(self):
        # Each change makes both steps again, in whichever sequence.
        self.assertEqual(least_runs(TWO, worlds(TWO)), (8, (0, 1, 2, 3)))
        self.assertEqual(least_runs(TWO, worlds(TWO)[::-1]), (8, (0, 1, 2, 3)))
        # Equal worlds stand side by side in the best sequences, the first of which begins with the first of them.
        self.assertEqual(least_runs(TWO, [(0, 1), (0, 0), (0, 1)]), (4, (0, 2, 1)))
        self.assertEqual(least_runs(TWO, [(0, 1), (0, 0), (1, 1), (0, 0)]), (6, (0, 1, 3, 2)))
        self.assertEqual(least_runs(TWO, [(0, 1), (1, 0), (0, 0), (1, 0), (0, 1)]), (6, (0, 4, 1, 3, 2)))

    def test_the_best_sequence_need_not_begin_with_the_first_world(self):
        # Thing 2 alone costs one run, thing 1 two: world 1 stands between the others.
        some = [(0, 0, 0), (0, 1, 1), (0, 0, 1)]
        self.assertEqual(least_runs(STAIRS, some), (3 + 1 + 2, (0, 2, 1)))
        # Worlds that differ in thing 0 are put on the two sides.
        some = [(0, 0, 1), (1, 0, 0), (0, 0, 0)]
        self.assertEqual(least_runs(STAIRS, some), (3 + 1 + 3, (0, 2, 1)))
        # World 0 fits between the two others only.
        recipe = ((("a", "b"), ("c", "d")), (("sort", (("thing", 0),)), ("sort", (("thing", 1),))), (0, 1))
        self.assertEqual(least_runs(recipe, [(0, 0), (0, 1), (1, 0)]), (4, (1, 0, 2)))

    def test_only_the_last_world_is_kept(self):
        # With all results kept, each step needs two runs.
        recipe = ((("a", "b"), ("c", "d")), (("sort", (("thing", 0),)), ("sort", (("thing", 1),))), (0, 1))
        self.assertEqual(least_runs(recipe, [(0, 0), (0, 1), (1, 0), (1, 1)]), (2 + 1 + 1 + 1, (0, 1, 3, 2)))
        self.assertEqual(count_runs(recipe, [(0, 0), (0, 1), (1, 0), (1, 1)]), 4)

    def test_a_list_of_five_worlds_within_a_few_seconds(self):
        some = worlds(LARGE)[::60]
        self.assertEqual(len(some), 5)
        began = time.process_time()
        found = least_runs(LARGE, some)
        self.assertLess(time.process_time() - began, 3)
        self.assertEqual(found, plain_least_runs(LARGE, some))

    def test_the_sequence_is_a_tuple_with_each_index_once(self):
        for recipe, _ in many_acts(60, 74):
            some = (worlds(recipe)[:2] + worlds(recipe)[-3:])[:5]
            found = least_runs(recipe, some)
            self.assertEqual([type(found), type(found[0]), type(found[1])], [tuple, int, tuple])
            self.assertEqual(sorted(found[1]), list(range(len(some))))
            self.assertEqual(plain_runs_one_by_one(recipe, [some[at] for at in found[1]]), found[0])
            self.assertGreaterEqual(found[0], count_runs(recipe, some))

    def test_many(self):
        for recipe, _ in many_acts(60, 75):
            there = worlds(recipe)
            for many in range(1, 5):
                some = [there[(at * at + 3 * at) % len(there)] for at in range(many)]
                self.assertEqual(least_runs(recipe, some), plain_least_runs(recipe, some), (recipe, some))

    def test_many_lists_of_five(self):
        for recipe, _ in many_acts(12, 76):
            there = worlds(recipe)
            some = [there[(at * at * 7 + 1) % len(there)] for at in range(5)]
            self.assertEqual(least_runs(recipe, some), plain_least_runs(recipe, some), (recipe, some))


class Lists(unittest.TestCase):
    def test_the_recipe_is_refused_first(self):
        for call in LISTED:
            for recipe in not_recipes() + odd_values() + [value for _, value in spoiled(TWO)]:
                for some in ([(0, 0)], [], None):
                    refused(self, InvalidRecipe, call, recipe, some)

    def test_lists_of_0_and_of_6_worlds(self):
        for call in LISTED:
            for many in range(9):
                if 1 <= many <= 5:
                    call(TWO, [(0, 1)] * many)
                else:
                    refused(self, InvalidWorlds, call, TWO, [(0, 1)] * many)

    def test_what_is_no_list_of_worlds(self):
        for call in LISTED:
            for value in wrong_lists() + odd_values():
                refused(self, InvalidWorlds, call, TWO, value)
            for value in odd_values() + [value for _, value in spoiled((0, 0))]:
                refused(self, InvalidWorlds, call, TWO, [value])
                refused(self, InvalidWorlds, call, TWO, [(0, 0), value, (1, 1)])

    def test_no_argument_is_modified(self):
        for call in LISTED:
            some = [(0, 1), (0, 0), (1, 1), (0, 0)]
            values = copy.deepcopy((TWO, some))
            call(*values)
            self.assertEqual(values, (TWO, some))
            for wrong in ([[0, 0]], [(0, 0)] * 6, [[(0, 0)], [0]], {0: [1]}):
                before = copy.deepcopy(wrong)
                refused(self, InvalidWorlds, call, TWO, wrong)
                refused(self, InvalidRecipe, call, wrong, [(0, 0)])
                self.assertEqual(wrong, before)

    def test_made_again_modifies_no_argument(self):
        values = copy.deepcopy((TWO, (0, 0), (0, 1)))
        made_again(*values)
        self.assertEqual(values, (TWO, (0, 0), (0, 1)))
        for wrong in ([0, 0], [[0], 1], {0: [1]}):
            before = copy.deepcopy(wrong)
            refused(self, InvalidRecipe, made_again, wrong, (0, 0), (0, 0))
            refused(self, InvalidWorld, made_again, TWO, wrong, (0, 0))
            refused(self, InvalidWorld, made_again, TWO, (0, 0), wrong)
            self.assertEqual(wrong, before)


if __name__ == "__main__":
    unittest.main()
