"""is_order, count_orders and least_rounds: points [1] and [17]."""

import copy
import itertools
import random
import time
import unittest

from samebuilds.errors import InvalidNumber, InvalidRecipe
from samebuilds.orders import count_orders, is_order, least_rounds
from tests.plain import plain_is_order, plain_orders, plain_rounds, some_recipe
from tests.values import LARGE, TWO, WIDE, Strange, not_recipes, odd_values, refused, spoiled

MAKING = {0: "sort", 1: "turn", 2: "join", 3: "pick"}


def reading(*rows):
    """Return a recipe whose steps read the steps in these rows, and thing 0 where they read none."""
    steps = []
    for row in rows:
        reads = tuple(("step", number) for number in row) or (("thing", 0),)
        steps.append((MAKING[len(row)], reads))
    return ((("a", "b"),), tuple(steps), (0,))


ALONE = reading((), (), (), (), (), (), (), ())
CHAIN = reading((), (0,), (1,), (2,), (3,), (4,), (5,), (6,))
# Steps that read two others.
TREE = reading((), (), (), (), (0, 1), (2, 3), (4, 5))
WRONG_HANDS = [0, 9, -1, 100, 10 ** 30, -10 ** 30, True, False, None, "2", "", (), (1,), [1], b"1", {}, 1j, Strange()]


class IsOrder(unittest.TestCase):
    def test_the_example(self):
        self.assertIs(is_order(TWO, (1, 0)), False)
        self.assertIs(is_order(TWO, (0, 1)), True)

    def test_the_numbers_of_all_steps_ascending(self):
        for recipe in (TWO, WIDE, LARGE, ALONE, CHAIN, TREE, reading(())):
            self.assertIs(is_order(recipe, tuple(range(len(recipe[1])))), True)

    def test_a_step_ahead_of_one_that_it_reads(self):
        for at in range(7):
            steps = list(range(8))
            steps[at], steps[at + 1] = steps[at + 1], steps[at]
            self.assertIs(is_order(CHAIN, tuple(steps)), False)
            self.assertIs(is_order(ALONE, tuple(steps)), True)
        self.assertIs(is_order(TREE, (0, 1, 4, 2, 3, 5, 6)), True)
        self.assertIs(is_order(TREE, (3, 2, 5, 1, 0, 4, 6)), True)
        self.assertIs(is_order(TREE, (0, 4, 1, 2, 3, 5, 6)), False)
        self.assertIs(is_order(TREE, (1, 4, 0, 2, 3, 5, 6)), False)
        self.assertIs(is_order(TREE, (6, 0, 1, 2, 3, 4, 5)), False)
        self.assertIs(is_order(TREE, (0, 1, 2, 3, 4, 6, 5)), False)

    def test_the_reading_of_a_thing_is_none_of_the_step_with_its_number(self):
        recipe = (TWO[0], (("sort", (("thing", 1),)), ("sort", (("thing", 0),))), (0,))
        self.assertIs(is_order(recipe, (1, 0)), True)

    def test_every_reading_counts(self):
        for at in range(3):
            reads = tuple(("step", 1) if place == at else ("thing", 0) for place in range(3))
            recipe = ((("a",),), (("sort", (("thing", 0),)), ("sort", (("thing", 0),)), ("pick", reads)), (0,))
            self.assertIs(is_order(recipe, (1, 2, 0)), True)
            self.assertIs(is_order(recipe, (0, 2, 1)), False)

    def test_each_step_once(self):
        for value in ((), (0,), (1,), (0, 0), (1, 1), (0, 1, 1), (0, 0, 1), (0, 1, 2), (0, 2), (-1, 0), (0, -1),
                      (0, 1, 0), (-2, -1), (1, 2), (0, 10 ** 30)):
            self.assertIs(is_order(TWO, value), False, value)
        for value in ((0,) * 8, (0, 1, 2, 3, 4, 5, 6), (0, 1, 2, 3, 4, 5, 6, 6), (1, 2, 3, 4, 5, 6, 7, 8)):
            self.assertIs(is_order(ALONE, value), False, value)

    def test_other_kinds_of_values(self):
        for value in ([0, 1], (False, True), (0, True), (False, 1), ("0", "1"), "01", b"\x00\x01", {0: 1}, {0, 1},
                      range(2), ((0,), (1,)), ([0], [1]), (0, None), (None, 1), (0, [1]), (0, Strange()), Strange()):
            self.assertIs(is_order(TWO, value), False)
        one = reading(())
        for value in odd_values() + [False, (False,), (True,), [0], "0", (0, 0)]:
            self.assertIs(is_order(one, value), False)
        for _, value in spoiled((0, 1, 2, 3, 4, 5, 6)):
            self.assertIs(is_order(TREE, value), False)

    def test_all_tuples_of_few_steps(self):
        for recipe in (TWO, reading(()), reading((), (), (0,)), reading((), (0,), (0,), (1, 2)), reading((), (), ())):
            for many in range(6):
                for steps in itertools.product(range(len(recipe[1]) + 1), repeat=many):
                    self.assertIs(is_order(recipe, steps), plain_is_order(recipe, steps), (recipe, steps))

    def test_many(self):
        chance = random.Random(100)
        for _ in range(60):
            recipe = some_recipe(chance)
            steps = list(range(len(recipe[1])))
            for _ in range(40):
                chance.shuffle(steps)
                self.assertIs(is_order(recipe, tuple(steps)), plain_is_order(recipe, tuple(steps)))

    def test_the_recipe_is_refused(self):
        for recipe in not_recipes() + odd_values() + [value for _, value in spoiled(TWO)]:
            for value in ((0, 1), (1, 0), None):
                refused(self, InvalidRecipe, is_order, recipe, value)


class CountOrders(unittest.TestCase):
    def test_the_example(self):
        self.assertEqual(count_orders(TWO), 1)

    def test_one_step(self):
        self.assertEqual(count_orders(reading(())), 1)

    def test_eight_steps(self):
        began = time.process_time()
        self.assertEqual(count_orders(ALONE), 40320)
        self.assertEqual(count_orders(CHAIN), 1)
        self.assertEqual(count_orders(reading((), (), (), (), (), (), (), (0,))), 20160)
        self.assertLess(time.process_time() - began, 3)

    def test_steps_that_read_no_step(self):
        for many, expected in enumerate((1, 2, 6, 24, 120, 720, 5040, 40320)):
            self.assertEqual(count_orders(reading(*([()] * (many + 1)))), expected)

    def test_steps_that_read_two_others(self):
        self.assertEqual(count_orders(reading((), (), (0, 1))), 2)
        self.assertEqual(count_orders(reading((), (0,), (0, 1))), 1)
        self.assertEqual(count_orders(reading((), (0,), (0,), (1, 2))), 2)
        self.assertEqual(count_orders(reading((), (), (), (0, 1))), 8)
        # Each half has 2 orders, and two halves of 3 steps are mixed in 20 ways; the last step is the last one.
        self.assertEqual(count_orders(TREE), 80)
        self.assertEqual(count_orders(reading((), (), (), (0, 1, 2))), 6)

    def test_two_readings_of_the_same_step_are_as_one(self):
        self.assertEqual(count_orders(reading((), (), (0, 0))), count_orders(reading((), (), (0,))))
        self.assertEqual(count_orders(reading((), (), (0, 0))), 3)

    def test_things_do_not_matter(self):
        self.assertEqual(count_orders(WIDE), len(plain_orders(WIDE)))
        self.assertEqual(count_orders(LARGE), len(plain_orders(LARGE)))

    def test_many(self):
        chance = random.Random(101)
        for _ in range(150):
            recipe = some_recipe(chance)
            self.assertEqual(count_orders(recipe), len(plain_orders(recipe)), recipe)

    def test_what_is_no_recipe(self):
        for recipe in not_recipes() + odd_values() + [value for _, value in spoiled(TWO)]:
            refused(self, InvalidRecipe, count_orders, recipe)


class LeastRounds(unittest.TestCase):
    def told(self, recipe, expected):
        """Let the test fail unless these are the least numbers of rounds with 1, 2, .. hands."""
        self.assertEqual([least_rounds(recipe, hands) for hands in range(1, 9)], expected)

    def test_the_example(self):
        self.assertEqual(least_rounds(TWO, 2), 2)

    def test_one_hand(self):
        for recipe in (TWO, WIDE, LARGE, ALONE, CHAIN, TREE, reading(())):
            self.assertEqual(least_rounds(recipe, 1), len(recipe[1]))

    def test_each_number_of_hands(self):
        self.told(reading(()), [1] * 8)
        self.told(ALONE, [8, 4, 3, 2, 2, 2, 2, 1])
        self.told(CHAIN, [8] * 8)
        self.told(TREE, [7, 4, 4, 3, 3, 3, 3, 3])
        self.told(TWO, [2] * 8)

    def test_eight_hands_need_as_many_rounds_as_the_longest_chain_has_steps(self):
        self.assertEqual(least_rounds(reading((), (0,), (), (1, 2), (3,), (2,), (), (5, 6)), 8), 4)
        self.assertEqual(least_rounds(reading((), (), (), (), (), (), (), (0, 6)), 8), 2)
        self.assertEqual(least_rounds(reading((), (), (), (), (), (), (5,), (0, 6)), 8), 3)

    def test_the_steps_of_the_first_rounds_matter(self):
        # With two hands, step 2, on which a chain leans, is to be made in the first round.
        recipe = reading((), (), (), (2,), (3,))
        self.told(recipe, [5, 3, 3, 3, 3, 3, 3, 3])
        # The chain begins behind three other steps, and is longer than what two hands need for all steps.
        recipe = reading((), (), (), (), (3,), (4,), (5,), (6,))
        self.told(recipe, [8, 5, 5, 5, 5, 5, 5, 5])
        # The steps that many others read are to be made first, though they stand behind.
        recipe = reading((), (), (), (), (2, 3), (2, 3), (3,), (2,))
        self.told(recipe, [8, 4, 3, 2, 2, 2, 2, 2])

    def test_a_step_is_not_made_in_one_round_with_what_it_reads(self):
        self.told(reading((), (0,)), [2] * 8)
        self.told(reading((), (), (0, 1)), [3, 2, 2, 2, 2, 2, 2, 2])
        self.told(reading((), (0,), (0,), (0,)), [4, 3, 2, 2, 2, 2, 2, 2])

    def test_rounds_need_not_be_full(self):
        self.told(reading((), (0,), (0,), (1, 2), (3,), (3,)), [6, 4, 4, 4, 4, 4, 4, 4])

    def test_many(self):
        chance = random.Random(102)
        for _ in range(120):
            recipe = some_recipe(chance)
            for hands in range(1, 9):
                self.assertEqual(least_rounds(recipe, hands), plain_rounds(recipe, hands), (recipe, hands))

    def test_many_recipes_whose_steps_read_few_steps(self):
        chance = random.Random(103)
        for _ in range(80):
            rows = []
            for at in range(6):
                rows.append(tuple(chance.sample(range(at), min(at, chance.choice((0, 0, 1, 1, 2))))))
            recipe = reading(*rows)
            for hands in (2, 3):
                self.assertEqual(least_rounds(recipe, hands), plain_rounds(recipe, hands), (recipe, hands))

    def test_all_within_a_few_seconds(self):
        began = time.process_time()
        for recipe in (ALONE, CHAIN, LARGE, WIDE):
            for hands in range(1, 9):
                least_rounds(recipe, hands)
        self.assertLess(time.process_time() - began, 3)

    def test_the_recipe_is_refused_first(self):
        for recipe in not_recipes() + odd_values() + [value for _, value in spoiled(TWO)]:
            for hands in (1, 0, None):
                refused(self, InvalidRecipe, least_rounds, recipe, hands)

    def test_hands_are_an_integer_from_1_to_8(self):
        for hands in range(-3, 14):
            if 1 <= hands <= 8:
                least_rounds(TWO, hands)
            else:
                refused(self, InvalidNumber, least_rounds, TWO, hands)
        for hands in WRONG_HANDS + odd_values():
            refused(self, InvalidNumber, least_rounds, TWO, hands)


class All(unittest.TestCase):
    def test_no_argument_is_modified(self):
        for call, values in ((is_order, (TREE, (0, 1, 2, 3, 4, 5, 6))), (count_orders, (TREE,)),
                             (least_rounds, (TREE, 2)), (is_order, (TREE, [0, [1]]))):
            before = copy.deepcopy(values)
            call(*values)
            self.assertEqual(values, before)
        for wrong in (list(TWO), [[0], 1], {0: [1]}):
            before = copy.deepcopy(wrong)
            refused(self, InvalidRecipe, is_order, wrong, (0, 1))
            refused(self, InvalidRecipe, count_orders, wrong)
            refused(self, InvalidRecipe, least_rounds, wrong, 1)
            refused(self, InvalidNumber, least_rounds, TWO, wrong)
            self.assertEqual(wrong, before)


if __name__ == "__main__":
    unittest.main()
