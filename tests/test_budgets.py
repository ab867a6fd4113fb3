"""fewest_classes and trades: points [1], [7] and [12]."""

import copy
import itertools
import time
import unittest

from samebuilds.budgets import fewest_classes, trades
from samebuilds.errors import InvalidNumber, InvalidOffers, InvalidRecipe
from tests.plain import many_problems, plain_pairs, plain_trades
from tests.values import IDLE, LARGE, OFF, TWO, Strange, not_recipes, odd_values, refused, spoiled

CONSTANT = ((("a", "b"),), (("same", (("thing", 0), ("thing", 0))),), (0,))

# The outcome is the texts of all three things: as many classes as worlds are left, or texts are read.
EACH = ((("a", "b"), ("c", "d"), ("w", "x", "y")), (
    ("join", (("thing", 0), ("thing", 1))), ("join", (("step", 0), ("thing", 2)))), (1,))

# Two pins of one thing leave no world.
PINS = ((("pin", 0, 0), 1), (("pin", 0, 1), 1))
WRONG_OFFERS = [None, [], list(OFF), OFF[::-1], OFF + OFF, ((("pin", 0, 0), 10),), ((("pin", 0, 0), True),), ((),)]
WRONG_BUDGETS = [-1, 100, 10 ** 30, -10 ** 30, True, False, None, "1", "", (), (1,), [1], b"1", {}, 1j, Strange()]


class FewestClasses(unittest.TestCase):
    def told(self, recipe, offers, expected):
        found = [fewest_classes(recipe, offers, budget) for budget in range(len(expected))]
        self.assertEqual(found, expected)
        self.assertEqual(fewest_classes(recipe, offers, 99), expected[-1])

    def test_the_example(self):
        self.assertEqual(fewest_classes(TWO, OFF, 1), 2)

    def test_each_budget_of_the_example(self):
        self.told(TWO, OFF, [2, 2, 1, 1, 1, 1])

    def test_the_budget_0(self):
        self.assertEqual(fewest_classes(TWO, OFF, 0), 2)
        self.assertEqual(fewest_classes(EACH, (), 0), 12)
        self.assertEqual(fewest_classes(CONSTANT, PINS, 0), 1)
        self.assertEqual(fewest_classes(LARGE, IDLE, 0), 2)

    def test_the_budget_99(self):
        self.assertEqual(fewest_classes(TWO, OFF, 99), 1)
        self.assertEqual(fewest_classes(TWO, (), 99), 2)
        self.assertEqual(fewest_classes(TWO, OFF[1:2], 99), 2)
        self.assertEqual(fewest_classes(EACH, ((("pin", 2, 2), 9),), 99), 4)

    def test_acts_are_bought_as_far_as_the_budget_reaches(self):
        offers = ((("hide", 0, 1), 3), (("pin", 0, 1), 2), (("pin", 2, 0), 4))
        self.told(EACH, offers, [12, 12, 6, 6, 4, 3, 2, 2, 2, 1, 1])

    def test_acts_that_leave_no_world_are_not_counted(self):
        self.told(TWO, PINS, [2, 2, 2, 2])
        self.told(EACH, PINS, [12, 6, 6, 6])
        self.told(EACH, PINS + ((("pin", 1, 0), 1),), [12, 6, 3, 3])

    def test_dearer_acts_with_more_classes(self):
        # The hiding of thing 0 from step 1 makes more classes.
        self.told(TWO, ((("hide", 1, 0), 1),), [2, 2])
        recipe = ((("a", "b"),), (("sort", (("thing", 0),)), ("less", (("step", 0), ("thing", 0)))), (1,))
        self.told(recipe, ((("hide", 1, 0), 1),), [1, 1, 1])

    def test_many(self):
        for recipe, offers, _ in many_problems(120, 40):
            pairs = plain_pairs(recipe, offers)
            for budget in list(range(7)) + [98, 99]:
                expected = min(many for price, many in pairs if price <= budget)
                self.assertEqual(fewest_classes(recipe, offers, budget), expected, (recipe, offers, budget))

    def test_the_budget_is_an_integer_from_0_to_99(self):
        for budget in range(-5, 106):
            if 0 <= budget <= 99:
                fewest_classes(TWO, OFF, budget)
            else:
                refused(self, InvalidNumber, fewest_classes, TWO, OFF, budget)
        for budget in WRONG_BUDGETS + odd_values():
            if repr(budget) != "99":
                refused(self, InvalidNumber, fewest_classes, TWO, OFF, budget)

    def test_the_errors_in_their_sequence(self):
        for recipe in not_recipes() + odd_values():
            for offers, budget in itertools.product((OFF, None), (1, 100)):
                refused(self, InvalidRecipe, fewest_classes, recipe, offers, budget)
        for offers in WRONG_OFFERS + odd_values() + [value for _, value in spoiled(OFF)]:
            for budget in (0, 1, 100, True):
                refused(self, InvalidOffers, fewest_classes, TWO, offers, budget)


class Trades(unittest.TestCase):
    def test_the_example(self):
        self.assertEqual(trades(TWO, OFF), [(0, 2), (2, 1)])

    def test_no_offers(self):
        self.assertEqual(trades(TWO, ()), [(0, 2)])
        self.assertEqual(trades(EACH, ()), [(0, 12)])
        self.assertEqual(trades(CONSTANT, ()), [(0, 1)])

    def test_acts_that_do_not_help(self):
        self.assertEqual(trades(TWO, OFF[1:2]), [(0, 2)])
        self.assertEqual(trades(CONSTANT, PINS), [(0, 1)])
        self.assertEqual(trades(LARGE, IDLE), [(0, 2)])

    def test_several_trades_ascending(self):
        offers = ((("hide", 0, 1), 3), (("pin", 0, 1), 2), (("pin", 2, 0), 4))
        self.assertEqual(trades(EACH, offers), [(0, 12), (2, 6), (4, 4), (5, 3), (6, 2), (9, 1)])

    def test_each_pair_once(self):
        offers = ((("hide", 0, 0), 1), (("pin", 0, 0), 1), (("pin", 0, 1), 1), (("pin", 1, 0), 1), (("pin", 1, 1), 1))
        self.assertEqual(trades(EACH, offers), [(0, 12), (1, 6), (2, 3)])

    def test_a_pair_with_an_equal_price_and_more_classes_is_no_trade(self):
        self.assertEqual(trades(EACH, ((("pin", 0, 0), 2), (("pin", 2, 0), 2))), [(0, 12), (2, 4), (4, 2)])

    def test_a_pair_with_a_greater_price_and_as_many_classes_is_no_trade(self):
        self.assertEqual(trades(EACH, ((("pin", 0, 0), 2), (("pin", 1, 0), 3))), [(0, 12), (2, 6), (5, 3)])
        self.assertEqual(trades(EACH, ((("pin", 0, 0), 3), (("pin", 1, 0), 2))), [(0, 12), (2, 6), (5, 3)])

    def test_acts_that_leave_no_world_are_no_trade(self):
        self.assertEqual(trades(TWO, PINS), [(0, 2)])
        self.assertEqual(trades(EACH, PINS), [(0, 12), (1, 6)])

    def test_the_greatest_price(self):
        offers = tuple((act, 9) for act in (
            ("hide", 0, 0), ("hide", 0, 1), ("hide", 1, 2), ("pin", 0, 0), ("pin", 1, 0), ("pin", 2, 0)))
        self.assertEqual(trades(EACH, offers), [(0, 12), (9, 4), (18, 2), (27, 1)])

    def test_many(self):
        for recipe, offers, _ in many_problems(150, 41, 6):
            self.assertEqual(trades(recipe, offers), plain_trades(recipe, offers), (recipe, offers))

    def test_the_fewest_classes_are_those_of_the_last_trade_within_the_budget(self):
        for recipe, offers, _ in many_problems(60, 42):
            found = trades(recipe, offers)
            for budget in range(13):
                expected = [many for price, many in found if price <= budget][-1]
                self.assertEqual(fewest_classes(recipe, offers, budget), expected)

    def test_a_recipe_with_256_worlds_within_a_few_seconds(self):
        began = time.perf_counter()
        trades(LARGE, IDLE)
        fewest_classes(LARGE, IDLE, 99)
        self.assertLess(time.perf_counter() - began, 30)

    def test_a_new_list_at_every_call(self):
        first = trades(TWO, OFF)
        self.assertEqual([type(first)] + [type(pair) for pair in first], [list, tuple, tuple])
        first.clear()
        self.assertEqual(trades(TWO, OFF), [(0, 2), (2, 1)])

    def test_the_errors_in_their_sequence(self):
        for recipe in not_recipes() + odd_values() + [value for _, value in spoiled(TWO)]:
            for offers in (OFF, None):
                refused(self, InvalidRecipe, trades, recipe, offers)
        for offers in WRONG_OFFERS + odd_values() + [value for _, value in spoiled(OFF)]:
            refused(self, InvalidOffers, trades, TWO, offers)

    def test_no_argument_is_modified(self):
        recipe, offers = copy.deepcopy((EACH, PINS))
        trades(recipe, offers)
        fewest_classes(recipe, offers, 5)
        self.assertEqual((recipe, offers), (EACH, PINS))
        for wrong in ([["x"]], {0: [1]}):
            before = copy.deepcopy(wrong)
            refused(self, InvalidRecipe, trades, wrong, OFF)
            refused(self, InvalidOffers, trades, TWO, wrong)
            refused(self, InvalidOffers, fewest_classes, TWO, wrong, 1)
            refused(self, InvalidNumber, fewest_classes, TWO, OFF, wrong)
            self.assertEqual(wrong, before)


if __name__ == "__main__":
    unittest.main()
