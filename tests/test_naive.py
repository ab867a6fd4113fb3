"""naive_is_same, naive_least_price and naive_count_orders: points [1], [7], [9] and [17]."""

import copy
import random
import time
import unittest

from samebuilds.cheapest import least_price
from samebuilds.errors import InvalidActs, InvalidNumber, InvalidOffers, InvalidRecipe, InvalidWish
from samebuilds.naive import naive_count_orders, naive_is_same, naive_least_price
from samebuilds.orders import count_orders
from samebuilds.sameness import is_same
from tests.plain import many_acts, many_problems, plain_cheapest, plain_is_same, plain_orders, some_recipe
from tests.values import IDLE, LARGE, OFF, TWO, Strange, not_recipes, odd_values, refused, spoiled

# Two pins of one thing, which leave no world.
PINS = (("pin", 0, 0), ("pin", 0, 1))
SAME_LARGE = (LARGE[0], LARGE[1][:3] + (("less", (("step", 2), ("step", 2))),) + LARGE[1][4:], (3,))

WRONG_ACTS = [None, [], [("pin", 0, 0)], ("pin", 0, 0), (("hide", 1, 1),), (("pin", 0, True),), PINS[::-1], PINS * 2]
WRONG_OFFERS = [None, [], list(OFF), OFF[::-1], OFF + OFF, ((("pin", 0, 0), 10),), ((("pin", 0, 0), True),), ((),)]
WRONG_WISHES = [False, (), ("x", "x"), ["x"], "x", (None,), (0,), ("X",), ("-",), ("a" * 2001,), (b"x",), [("x",)]]


def steps_alone(many):
    """Return a recipe with so many steps that read no step."""
    return ((("a", "b"),), (("sort", (("thing", 0),)),) * many, (0,))


class IsSame(unittest.TestCase):
    def told(self, recipe, acts, expected):
        self.assertIs(naive_is_same(recipe, acts), expected, (recipe, acts))
        self.assertIs(is_same(recipe, acts), expected, (recipe, acts))

    def test_the_example_of_is_same(self):
        self.told(TWO, (("hide", 0, 1),), True)

    def test_acts_of_the_example(self):
        self.told(TWO, (), False)
        self.told(TWO, (("pin", 1, 0),), True)
        self.told(TWO, (("pin", 0, 0),), False)
        self.told(TWO, (("hide", 1, 0),), False)
        self.told(TWO, (("hide", 0, 1), ("hide", 1, 0)), False)

    def test_no_world_is_left(self):
        self.told(TWO, PINS, False)
        self.told(TWO, (("hide", 0, 1),) + PINS, False)
        self.told(SAME_LARGE, PINS, False)

    def test_one_world_is_left(self):
        self.told(TWO, (("pin", 0, 1), ("pin", 1, 1)), True)

    def test_the_last_world_alone_is_unlike(self):
        self.told(LARGE, (), False)
        self.told(LARGE, (("pin", 0, 0),), True)

    def test_many_worlds_within_a_few_seconds(self):
        began = time.process_time()
        self.told(SAME_LARGE, (), True)
        self.assertLess(time.process_time() - began, 3)

    def test_many(self):
        found = []
        for recipe, acts in many_acts(400, 130):
            expected = plain_is_same(recipe, acts)
            self.told(recipe, acts, expected)
            found.append(expected)
        self.assertGreater(min(found.count(True), found.count(False)), 50)

    def test_the_errors_in_their_sequence(self):
        for recipe in not_recipes() + odd_values() + [value for _, value in spoiled(TWO)]:
            for acts in ((), None):
                refused(self, InvalidRecipe, naive_is_same, recipe, acts)
        for acts in WRONG_ACTS + odd_values() + [Strange()] + [value for _, value in spoiled((("pin", 0, 0),))]:
            refused(self, InvalidActs, naive_is_same, TWO, acts)


class LeastPrice(unittest.TestCase):
    def told(self, recipe, offers, wish, expected):
        self.assertEqual(naive_least_price(recipe, offers, wish), expected, (recipe, offers, wish))
        self.assertEqual(least_price(recipe, offers, wish), expected, (recipe, offers, wish))

    def test_the_example_of_least_price(self):
        self.told(TWO, OFF, None, 2)

    def test_wishes_of_the_example(self):
        self.told(TWO, OFF, ("",), 2)
        self.told(TWO, OFF, ("x",), None)
        self.told(TWO, OFF, ("a",), None)
        self.told(TWO, ((("pin", 1, 0), 3), (("pin", 1, 1), 4)), ("x",), 4)

    def test_no_cure(self):
        self.told(TWO, (), None, None)
        self.told(TWO, OFF[1:2], None, None)
        self.told(LARGE, IDLE, None, None)
        self.told(LARGE, IDLE, ("y",), None)

    def test_acts_that_leave_no_world_are_no_cure(self):
        self.told(TWO, tuple((act, 1) for act in PINS), None, None)
        self.told(TWO, tuple((act, 1) for act in PINS), ("",), None)

    def test_nothing_is_needed(self):
        self.told(SAME_LARGE, IDLE, None, 0)
        self.told(SAME_LARGE, IDLE, ("",), 0)
        self.assertEqual(type(naive_least_price(SAME_LARGE, (), None)), int)

    def test_eight_offers_and_many_worlds_within_a_few_seconds(self):
        for recipe, expected in ((SAME_LARGE, 0), (LARGE, None)):
            for wish in (None, ("",)):
                began = time.process_time()
                self.assertEqual(naive_least_price(recipe, IDLE, wish), expected)
                self.assertLess(time.process_time() - began, 5)

    def test_many(self):
        found = []
        for recipe, offers, wish in many_problems(250, 131):
            expected, _ = plain_cheapest(recipe, offers, wish)
            self.told(recipe, offers, wish, expected)
            found.append(expected)
        self.assertGreater(found.count(None), 30)
        self.assertGreater(found.count(0), 30)
        self.assertGreater(len(found) - found.count(None) - found.count(0), 30)

    def test_the_errors_in_their_sequence(self):
        for recipe in not_recipes() + odd_values():
            for offers, wish in ((OFF, None), (None, None), (OFF, False), (None, False)):
                refused(self, InvalidRecipe, naive_least_price, recipe, offers, wish)
        for offers in WRONG_OFFERS + odd_values() + [value for _, value in spoiled(OFF)]:
            for wish in (None, ("x",), False):
                refused(self, InvalidOffers, naive_least_price, TWO, offers, wish)
        for wish in WRONG_WISHES + odd_values():
            # Of all these, two are wishes.
            if wish is not None and repr(wish) != "('thing',)":
                refused(self, InvalidWish, naive_least_price, TWO, OFF, wish)


class CountOrders(unittest.TestCase):
    def told(self, recipe, expected):
        self.assertEqual(naive_count_orders(recipe), expected, recipe)
        self.assertEqual(count_orders(recipe), expected, recipe)

    def test_the_example(self):
        self.assertEqual(naive_count_orders(TWO), 1)

    def test_steps_that_read_no_step(self):
        for many, expected in enumerate((1, 2, 6, 24, 120, 720)):
            self.told(steps_alone(many + 1), expected)

    def test_a_chain(self):
        chain = (("sort", (("thing", 0),)),) + tuple(("turn", (("step", at),)) for at in range(5))
        for many in range(1, 7):
            self.told(((("a", "b"),), chain[:many], (0,)), 1)

    def test_6_steps_and_7(self):
        began = time.process_time()
        self.told(steps_alone(6), 720)
        self.assertLess(time.process_time() - began, 3)
        for many in (7, 8):
            refused(self, InvalidNumber, naive_count_orders, steps_alone(many))
        refused(self, InvalidNumber, naive_count_orders, LARGE)

    def test_9_steps_are_no_recipe(self):
        refused(self, InvalidRecipe, naive_count_orders, steps_alone(9))
        refused(self, InvalidRecipe, naive_count_orders, steps_alone(0))

    def test_many(self):
        chance = random.Random(132)
        for _ in range(60):
            recipe = some_recipe(chance)
            self.told(recipe, len(plain_orders(recipe)))

    def test_what_is_no_recipe(self):
        for recipe in not_recipes() + odd_values() + [value for _, value in spoiled(TWO)]:
            refused(self, InvalidRecipe, naive_count_orders, recipe)


class All(unittest.TestCase):
    def test_no_argument_is_modified(self):
        for call, values in ((naive_is_same, (TWO, PINS)), (naive_least_price, (TWO, OFF, ("x",))),
                             (naive_least_price, (TWO, OFF, None)), (naive_count_orders, (TWO,))):
            before = copy.deepcopy(values)
            call(*values)
            self.assertEqual(values, before)
        for wrong in (list(TWO), [[0], 1], {0: [1]}):
            before = copy.deepcopy(wrong)
            refused(self, InvalidRecipe, naive_is_same, wrong, ())
            refused(self, InvalidActs, naive_is_same, TWO, wrong)
            refused(self, InvalidOffers, naive_least_price, TWO, wrong, None)
            refused(self, InvalidWish, naive_least_price, TWO, OFF, wrong)
            refused(self, InvalidRecipe, naive_count_orders, wrong)
            self.assertEqual(wrong, before)


if __name__ == "__main__":
    unittest.main()
