"""least_price, all_cheapest and sure_acts: points [1], [9] and [10]."""

import copy
import itertools
import time
import unittest

from samebuilds.cheapest import all_cheapest, least_price, sure_acts
from samebuilds.errors import InvalidOffers, InvalidRecipe, InvalidWish
from samebuilds.offers import is_cure, price_of, touches
from samebuilds.sameness import worlds_left
from tests.plain import many_problems, plain_bought, plain_cheapest, plain_cures, plain_parting, plain_short
from tests.values import IDLE, LARGE, OFF, TWO, WIDE, Strange, not_recipes, odd_values, refused, spoiled

FUNCTIONS = (least_price, all_cheapest, sure_acts)
CONSTANT = ((("a", "b"),), (("same", (("thing", 0), ("thing", 0))),), (0,))
WRONG_OFFERS = [None, [], list(OFF), OFF[::-1], OFF + OFF, ((("pin", 0, 0), 10),), ((("pin", 0, 0), True),), ((),)]
WRONG_WISHES = [(), ("x", "x"), ["x"], "x", ("X",), ("a" * 2001,), (None,), 0, False, {}, (Strange(),)]

# The outcome is the texts of both things: each must be pinned, or both hidings bought.
BOTH = ((("a", "b"), ("c", "d")), (("join", (("thing", 0), ("thing", 1))),), (0,))


class Checked(unittest.TestCase):
    def told(self, recipe, offers, wish, price, cures, sure):
        self.assertEqual(least_price(recipe, offers, wish), price, (recipe, offers, wish))
        self.assertEqual(all_cheapest(recipe, offers, wish), cures, (recipe, offers, wish))
        self.assertEqual(sure_acts(recipe, offers, wish), sure, (recipe, offers, wish))


class Examples(Checked):
    def test_the_examples(self):
        self.assertEqual(least_price(TWO, OFF, None), 2)
        self.assertEqual(all_cheapest(TWO, OFF, ("x",)), [])
        self.assertEqual(sure_acts(TWO, OFF, None), [("hide", 0, 1)])

    def test_the_rest_of_the_example(self):
        self.told(TWO, OFF, None, 2, [(("hide", 0, 1),)], [("hide", 0, 1)])
        self.told(TWO, OFF, ("x",), None, [], [])
        self.told(TWO, OFF, ("",), 2, [(("hide", 0, 1),)], [("hide", 0, 1)])

    def test_no_offers(self):
        self.told(TWO, (), None, None, [], [])
        self.told(TWO, (), ("",), None, [], [])
        self.told(CONSTANT, (), None, 0, [()], [])

    def test_a_recipe_that_is_same_without_any_act(self):
        offers = ((("hide", 0, 0), 1), (("pin", 0, 0), 1), (("pin", 0, 1), 1))
        self.told(CONSTANT, offers, None, 0, [()], [])
        self.told(CONSTANT, offers, ("y",), 0, [()], [])
        self.told(CONSTANT, offers, ("",), None, [], [])
        one = ((("a",),), (("sort", (("thing", 0),)),), (0,))
        self.told(one, ((("hide", 0, 0), 3),), None, 0, [()], [])
        self.told(one, ((("hide", 0, 0), 3),), ("",), 3, [(("hide", 0, 0),)], [("hide", 0, 0)])

    def test_no_cure_at_all(self):
        self.told(TWO, OFF[1:2], None, None, [], [])
        self.told(BOTH, ((("hide", 0, 0), 1), (("pin", 0, 0), 1), (("pin", 0, 1), 1)), None, None, [], [])
        self.told(TWO, OFF, ("q",), None, [], [])

    def test_pins_that_leave_no_world_are_no_cure(self):
        offers = ((("pin", 0, 0), 1), (("pin", 0, 1), 1))
        self.told(TWO, offers, None, None, [], [])
        self.told(BOTH, offers, ("ac",), None, [], [])

    def test_several_cheapest_cures_ascending(self):
        offers = ((("hide", 0, 1), 2), (("hide", 1, 0), 1), (("pin", 1, 0), 2), (("pin", 1, 1), 2))
        self.told(TWO, offers, None, 2, [(("hide", 0, 1),), (("pin", 1, 0),), (("pin", 1, 1),)], [])
        self.told(TWO, offers, ("",), 2, [(("hide", 0, 1),), (("pin", 1, 0),)], [])
        self.told(TWO, offers, ("x",), 2, [(("pin", 1, 1),)], [("pin", 1, 1)])

    def test_cheapest_cures_with_unlike_numbers_of_acts(self):
        offers = ((("hide", 0, 0), 1), (("hide", 0, 1), 2), (("pin", 0, 0), 1), (("pin", 0, 1), 9), (("pin", 1, 0), 2))
        self.told(BOTH, offers, None, 3, [
            (("hide", 0, 0), ("hide", 0, 1)), (("hide", 0, 0), ("pin", 1, 0)), (("hide", 0, 1), ("pin", 0, 0)),
            (("pin", 0, 0), ("pin", 1, 0))], [])
        self.told(BOTH, offers, ("ac",), 3, [(("pin", 0, 0), ("pin", 1, 0))], [("pin", 0, 0), ("pin", 1, 0)])
        self.told(BOTH, offers, ("",), 3, [(("hide", 0, 0), ("hide", 0, 1))], [("hide", 0, 0), ("hide", 0, 1)])
        self.told(BOTH, offers, ("bc",), 11, [(("pin", 0, 1), ("pin", 1, 0))], [("pin", 0, 1), ("pin", 1, 0)])
        three = ((("", "a"), ("", "a")), (("pick", (("thing", 0), ("thing", 1), ("thing", 0))),), (0,))
        offers = ((("hide", 0, 0), 2), (("pin", 0, 1), 1), (("pin", 1, 0), 1), (("pin", 1, 1), 1))
        self.told(three, offers, None, 1, [(("pin", 1, 0),)], [("pin", 1, 0)])
        offers = ((("hide", 0, 0), 2), (("pin", 0, 1), 1), (("pin", 1, 1), 1))
        self.told(three, offers, None, 2, [(("hide", 0, 0),), (("pin", 0, 1), ("pin", 1, 1))], [])

    def test_an_act_that_is_in_all_cheapest_cures_and_one_that_is_not(self):
        offers = ((("hide", 0, 0), 1), (("pin", 1, 0), 1), (("pin", 1, 1), 1))
        self.told(BOTH, offers, None, 2, [
            (("hide", 0, 0), ("pin", 1, 0)), (("hide", 0, 0), ("pin", 1, 1))], [("hide", 0, 0)])

    def test_cheap_acts_together_before_a_dear_one(self):
        offers = ((("hide", 0, 1), 9), (("pin", 0, 0), 4), (("pin", 1, 0), 5))
        self.told(TWO, offers, None, 5, [(("pin", 1, 0),)], [("pin", 1, 0)])
        joined = ((("a", "b"), ("c", "d")), (
            ("join", (("thing", 0), ("thing", 1))), ("sort", (("step", 0),)), ("less", (("step", 1), ("thing", 0)))),
            (1, 2))
        offers = ((("hide", 0, 0), 1), (("hide", 0, 1), 1), (("hide", 2, 0), 1), (("pin", 0, 0), 9), (("pin", 1, 0), 1))
        self.told(joined, offers, None, 2, [
            (("hide", 0, 0), ("hide", 0, 1)), (("hide", 0, 0), ("pin", 1, 0))], [("hide", 0, 0)])

    def test_a_cure_with_all_offers(self):
        recipe = ((("a", "b"),) * 4, (
            ("join", (("thing", 0), ("thing", 1))), ("join", (("thing", 2), ("thing", 3))),
            ("join", (("step", 0), ("step", 1)))), (2,))
        offers = tuple((("pin", thing, 1), 9) for thing in range(4))
        acts = tuple(act for act, _ in offers)
        self.told(recipe, offers, None, 36, [acts], list(acts))
        self.told(recipe, offers, ("bbbb",), 36, [acts], list(acts))
        self.told(recipe, offers, ("abbb",), None, [], [])


class Many(Checked):
    def test_many(self):
        for recipe, offers, wish in many_problems(250, 20, 7):
            price, cures = plain_cheapest(recipe, offers, wish)
            sure = [act for act, _ in offers if cures and all(act in acts for acts in cures)]
            self.told(recipe, offers, wish, price, cures, sure)

    def test_the_three_agree_with_is_cure_and_price_of(self):
        for recipe, offers, wish in many_problems(100, 21):
            found = all_cheapest(recipe, offers, wish)
            self.assertEqual(found, sorted(found))
            for acts in found:
                self.assertTrue(is_cure(recipe, offers, wish, acts))
                self.assertEqual(price_of(recipe, offers, acts), least_price(recipe, offers, wish))
                self.assertLessEqual(set(sure_acts(recipe, offers, wish)), set(acts))
            self.assertEqual(found == [], least_price(recipe, offers, wish) is None)

    def test_dearer_offers_never_make_a_lesser_price(self):
        for recipe, offers, wish in many_problems(60, 22):
            price = least_price(recipe, offers, wish)
            for at in range(len(offers)):
                dearer = offers[:at] + ((offers[at][0], offers[at][1] + 2),) + offers[at + 1:]
                other = least_price(recipe, dearer, wish)
                self.assertEqual(other is None, price is None)
                self.assertTrue(price is None or price <= other <= price + 2)

    def test_fewer_offers_never_make_a_lesser_price(self):
        for recipe, offers, wish in many_problems(60, 23):
            price = least_price(recipe, offers, wish)
            for at in range(len(offers)):
                other = least_price(recipe, offers[:at] + offers[at + 1:], wish)
                self.assertTrue(other is None or (price is not None and price <= other))

    def test_eight_offers_in_a_recipe_with_256_worlds_within_a_few_seconds(self):
        began = time.perf_counter()
        self.told(LARGE, IDLE, None, None, [], [])
        self.told(LARGE, IDLE, ("",), None, [], [])
        self.told(LARGE, IDLE[:4] + ((("hide", 6, 0), 9), (("pin", 0, 1), 9), (("pin", 0, 2), 9), (("pin", 0, 3), 9)),
                  None, 9, [(("pin", 0, 1),), (("pin", 0, 2),)], [])
        self.assertLess(time.perf_counter() - began, 30)


class FurtherActs(unittest.TestCase):
    def test_each_cure_contains_a_further_act_that_touches_one_of_two_worlds_that_part(self):
        tried = 0
        for recipe, offers, wish in many_problems(60, 24):
            cures = plain_cures(recipe, offers, wish)
            for acts in plain_bought(offers) if cures else []:
                reasons = plain_parting(recipe, acts)
                if wish is not None:
                    reasons.extend((world,) for world in plain_short(recipe, wish, acts))
                for some, cure in itertools.product(reasons, cures):
                    if set(acts) <= set(cure):
                        further = [act for act in cure if act not in acts]
                        self.assertTrue(any(touches(recipe, act, world) for act in further for world in some))
                        tried += 1
        self.assertGreater(tried, 300)

    def test_no_cure_contains_bought_acts_that_leave_no_world(self):
        for recipe, offers, wish in many_problems(100, 25):
            cures = [acts for acts in plain_bought(offers) if is_cure(recipe, offers, wish, acts)]
            for acts in plain_bought(offers):
                if worlds_left(recipe, acts) == []:
                    self.assertFalse([cure for cure in cures if set(acts) <= set(cure)])


class Wrong(unittest.TestCase):
    def test_the_recipe_is_refused_first(self):
        for call in FUNCTIONS:
            for recipe in not_recipes() + odd_values() + [value for _, value in spoiled(TWO)]:
                refused(self, InvalidRecipe, call, recipe, OFF, None)
            for offers, wish in itertools.product(WRONG_OFFERS, WRONG_WISHES + [None, ("x",)]):
                refused(self, InvalidRecipe, call, TWO[:2], offers, wish)

    def test_the_offers_are_refused_second(self):
        for call in FUNCTIONS:
            for offers in odd_values() + [value for _, value in spoiled(OFF)]:
                refused(self, InvalidOffers, call, TWO, offers, None)
            for offers, wish in itertools.product(WRONG_OFFERS, WRONG_WISHES + [None, ("x",)]):
                refused(self, InvalidOffers, call, TWO, offers, wish)

    def test_the_wish_is_refused_third(self):
        for call in FUNCTIONS:
            for wish in WRONG_WISHES:
                refused(self, InvalidWish, call, TWO, OFF, wish)
                refused(self, InvalidWish, call, TWO, (), wish)
                refused(self, InvalidWish, call, CONSTANT, (), wish)
            for wish in ((), ("a",), ("a", "b"), ("a", "b", "c", "d"), ("a", "b", "-"), ["a", "b", "c"]):
                refused(self, InvalidWish, call, WIDE, (), wish)

    def test_wishes_of_2000_letters(self):
        for call in FUNCTIONS:
            self.assertIn(call(TWO, OFF, ("a" * 2000,)), (None, []))

    def test_new_lists_at_every_call(self):
        for call in (all_cheapest, sure_acts):
            first = call(TWO, OFF, None)
            before = list(first)
            self.assertIs(type(first), list)
            first.clear()
            self.assertEqual(call(TWO, OFF, None), before)
            self.assertIsNot(call(TWO, (), None), call(TWO, (), None))

    def test_no_argument_is_modified(self):
        for call in FUNCTIONS:
            for values in ((TWO, OFF, None), (TWO, OFF, ("x",)), (CONSTANT, (), None)):
                before = copy.deepcopy(values)
                call(*values)
                self.assertEqual(values, before)
            for wrong in ([["x"]], {0: [1]}):
                before = copy.deepcopy(wrong)
                refused(self, InvalidRecipe, call, wrong, OFF, None)
                refused(self, InvalidOffers, call, TWO, wrong, None)
                refused(self, InvalidWish, call, TWO, OFF, wrong)
                self.assertEqual(wrong, before)


if __name__ == "__main__":
    unittest.main()
