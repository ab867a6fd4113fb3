"""are_offers, price_of, is_cure and touches: points [1], [8] and [9]."""

import copy
import itertools
import unittest

from samebuilds.errors import InvalidAct, InvalidActs, InvalidOffers, InvalidRecipe, InvalidWish, InvalidWorld
from samebuilds.making import texts_in
from samebuilds.offers import are_offers, is_cure, price_of, touches
from samebuilds.recipes import worlds
from samebuilds.sameness import worlds_left
from tests.plain import (
    all_acts, many_acts, many_problems, plain_bought, plain_is_cure, plain_price, plain_touches,
)
from tests.values import (
    IDLE, LARGE, OFF, TWO, WIDE, Strange, item_at, not_recipes, odd_values, places, put_at, refused, spoiled,
)

ACTS = (("hide", 0, 0), ("hide", 0, 1), ("hide", 1, 0), ("pin", 0, 0), ("pin", 0, 1), ("pin", 1, 0), ("pin", 1, 1))
NO_WORLD = ((("pin", 0, 0), 1), (("pin", 0, 1), 1))

# What is right at no place of offers, beside the odd values.
WRONG_OFFERS = [
    list(OFF), OFF[::-1], OFF + OFF[2:], (OFF[0][0], OFF[1][0]), OFF[0], ((("hide", 1, 1), 1),), ((("pin", 0, 2), 1),),
    ((("pin", 0, 0), 0),), ((("pin", 0, 0), 10),), ((("pin", 0, 0), True),), ((("pin", 0, False), 1),),
    ((("pin", 0, 0), 1), (("pin", 0, 0), 2)), ((("pin", 0, 0),),), ((("pin", 0, 0), 1, 1),),
]
WRONG_WISHES = [
    (), ("x", "x"), ["x"], "x", ("X",), ("x ",), ("\xe9",), (None,), (0,), (("x",),), (["x"],), ("a" * 2001,), (b"x",),
    False, 0, {}, ("a1",), ("-",), (Strange(),),
]
WRONG_ACTS = [
    None, [], ["pin"], list(ACTS[1:3]), (("pin", 1, 1),), (("hide", 0, 0),), (("hide", 1, 0), ("hide", 0, 1)),
    (("hide", 0, 1), ("hide", 0, 1)), (("hide", 0, 1), ("hide", 1, 1)), (OFF[0],), OFF, (("hide", 0, True),),
    (("hide", False, 1),), (["hide", 0, 1],), ("hide", 0, 1), (("hide", 0, 1), ("pin", 0, 0)), (Strange(),), (None,),
    ((("hide", 0, 1),),), (("hide", 0),), {("hide", 0, 1)}, {("hide", 0, 1): 2},
]


class AreOffers(unittest.TestCase):
    def told(self, value, right, recipe=TWO):
        self.assertIs(are_offers(recipe, value), right, repr(value)[:500])

    def test_the_example(self):
        self.told(OFF, True)

    def test_the_empty_tuple(self):
        self.told((), True)
        self.told((), True, WIDE)

    def test_eight_and_nine(self):
        recipe = ((("a", "b", "c", "d"), ("a",)), (("sort", (("thing", 0),)),) * 8, (0,))
        acts = tuple(("hide", step, 0) for step in range(8)) + (("pin", 0, 0), ("pin", 0, 1), ("pin", 1, 0))
        for many in range(12):
            self.told(tuple((act, 1) for act in acts[:many]), many <= 8, recipe)
            self.told(tuple((act, 9) for act in acts[11 - many:]), many <= 8, recipe)

    def test_prices(self):
        for price in list(range(-3, 14)) + [99, 10 ** 30]:
            self.told(((("pin", 0, 0), price),), 1 <= price <= 9)
            self.told(OFF[:2] + ((("pin", 1, 0), price),), 1 <= price <= 9)

    def test_true_and_false_are_no_prices(self):
        for price in (True, False):
            self.told(((("pin", 0, 0), price),), False)
            self.told(OFF[:2] + ((("pin", 1, 0), price),), False)

    def test_other_kinds_of_prices(self):
        for price in (None, "1", "a", (1,), [1], b"1", 1j, {}, Strange()):
            self.told(((("pin", 0, 0), price),), False)

    def test_not_ascending(self):
        for one, other in itertools.product(ACTS, ACTS):
            self.told(((one, 1), (other, 1)), one < other)
            self.told(((one, 1), (other, 2)), one < other)
            self.told(((one, 2), (other, 1)), one < other)
        self.told(OFF[::-1], False)

    def test_one_act_with_two_prices(self):
        self.told(((("pin", 0, 0), 1), (("pin", 0, 0), 2)), False)
        self.told(((("pin", 0, 0), 2), (("pin", 0, 0), 1)), False)
        self.told(((("hide", 0, 0), 1), (("pin", 0, 0), 1), (("pin", 0, 0), 2), (("pin", 1, 0), 1)), False)

    def test_an_offer_twice(self):
        for offer in OFF:
            self.told((offer, offer), False)

    def test_pins_of_one_thing_at_unlike_texts(self):
        self.told(NO_WORLD, True)

    def test_all_acts_of_a_recipe(self):
        for act in ACTS:
            self.told(((act, 1),), True)
        self.told(tuple((act, 9) for act in ACTS), True)

    def test_an_act_that_is_none_of_the_recipe(self):
        for act in (("hide", 1, 1), ("pin", 2, 0), ("pin", 0, 2), ("hide", 2, 0), ("pin", -1, 0), ("pin", 0, -1),
                    ("pin", 0, True), ("pin", False, 0), ("hide", True, 0), ("Pin", 0, 0), ("pin", 0), ("pin", 0, 0, 0)):
            self.told(((act, 1),), False)
            self.told(((("hide", 0, 0), 1), (act, 1)), False)
            self.told(((act, 1), (("pin", 1, 1), 1)), False)

    def test_offers_of_another_length(self):
        for offer in ((), (("pin", 0, 0),), (("pin", 0, 0), 1, 1), ("pin", 0, 0, 1), (1, ("pin", 0, 0)), ("pin", 0, 0)):
            self.told((offer,), False)

    def test_another_kind_in_place_of_the_offers(self):
        for value in odd_values() + WRONG_OFFERS + [[], {}, TWO, set(OFF), dict(OFF)]:
            self.told(value, False)

    def test_another_kind_at_every_place(self):
        for offers in (OFF, NO_WORLD, OFF[:1]):
            for _, value in spoiled(offers):
                self.told(value, False)

    def test_right_values_at_wrong_places(self):
        for path in places(OFF):
            for new in ("thing", 10, ("pin", 2, 0), (("pin", 2, 0), 1), TWO):
                if item_at(OFF, path) != new:
                    self.told(put_at(OFF, path, new), False)

    def test_values_that_cannot_be_compared(self):
        self.told((Strange(),) * 3, False)
        self.told((Strange(),) * 9, False)
        self.told(((Strange(), 1), (Strange(), 1)), False)

    def test_what_is_not_a_recipe(self):
        for value in not_recipes() + odd_values() + [value for _, value in spoiled(TWO)]:
            for offers in ((), OFF, None, (None,)):
                refused(self, InvalidRecipe, are_offers, value, offers)

    def test_no_argument_is_modified(self):
        for value in (OFF, [[["pin", 0, 0], 1]], ([["pin", 0, 0], 1],), {"pin": [0]}):
            recipe = copy.deepcopy(TWO)
            before = copy.deepcopy(value)
            are_offers(recipe, value)
            self.assertEqual((recipe, value), (TWO, before))


class PriceOf(unittest.TestCase):
    def test_the_example(self):
        self.assertEqual(price_of(TWO, OFF, (("hide", 0, 1), ("pin", 1, 0))), 5)

    def test_no_acts(self):
        self.assertEqual(price_of(TWO, OFF, ()), 0)
        self.assertEqual(price_of(TWO, (), ()), 0)

    def test_all_bought_acts_of_the_example(self):
        expected = [0, 2, 1, 3, 3, 5, 4, 6]
        self.assertEqual([price_of(TWO, OFF, acts) for acts in plain_bought(OFF)], expected)

    def test_acts_with_the_greatest_price(self):
        offers = tuple((act, 9) for act, _ in IDLE)
        self.assertEqual(price_of(LARGE, offers, tuple(act for act, _ in IDLE)), 72)
        self.assertEqual(price_of(LARGE, IDLE, tuple(act for act, _ in IDLE)), 19)

    def test_acts_that_leave_no_world_have_a_price(self):
        self.assertEqual(price_of(TWO, NO_WORLD, (("pin", 0, 0), ("pin", 0, 1))), 2)

    def test_many(self):
        for recipe, offers, _ in many_problems(100, 10):
            for acts in plain_bought(offers):
                self.assertEqual(price_of(recipe, offers, acts), plain_price(offers, acts))

    def test_what_are_not_bought_acts(self):
        for value in WRONG_ACTS + odd_values() + [value for _, value in spoiled((("hide", 0, 1), ("pin", 1, 0)))]:
            refused(self, InvalidActs, price_of, TWO, OFF, value)
        for act in ACTS:
            refused(self, InvalidActs, price_of, TWO, (), (act,))
        for acts in plain_bought(OFF):
            if len(acts) > 1:
                refused(self, InvalidActs, price_of, TWO, OFF, acts[::-1])

    def test_the_errors_in_their_sequence(self):
        for recipe in not_recipes() + odd_values():
            for offers in (OFF, None):
                for acts in ((), None):
                    refused(self, InvalidRecipe, price_of, recipe, offers, acts)
        for offers in WRONG_OFFERS + odd_values() + [value for _, value in spoiled(OFF)]:
            for acts in ((), None, ACTS[:1]):
                refused(self, InvalidOffers, price_of, TWO, offers, acts)

    def test_no_argument_is_modified(self):
        recipe, offers, acts = copy.deepcopy((TWO, OFF, (("hide", 0, 1), ("pin", 1, 0))))
        price_of(recipe, offers, acts)
        self.assertEqual((recipe, offers, acts), (TWO, OFF, (("hide", 0, 1), ("pin", 1, 0))))
        for wrong in ([["hide", 0, 1]], {0: [1]}):
            before = copy.deepcopy(wrong)
            refused(self, InvalidActs, price_of, TWO, OFF, wrong)
            refused(self, InvalidOffers, price_of, TWO, wrong, ())
            self.assertEqual(wrong, before)


class IsCure(unittest.TestCase):
    def told(self, recipe, offers, wish, acts, right):
        self.assertIs(is_cure(recipe, offers, wish, acts), right, (offers, wish, acts))

    def test_the_example(self):
        self.told(TWO, OFF, None, (("hide", 0, 1), ("hide", 1, 0)), False)

    def test_without_a_wish(self):
        expected = [False, True, False, True, False, True, False, False]
        for acts, right in zip(plain_bought(OFF), expected):
            self.told(TWO, OFF, None, acts, right)

    def test_a_wish_that_is_met_in_all_worlds_left(self):
        self.told(TWO, OFF, ("",), (("hide", 0, 1),), True)
        self.told(TWO, OFF, ("",), (("pin", 1, 0),), True)
        offers = ((("pin", 0, 0), 1), (("pin", 1, 1), 1))
        self.told(TWO, offers, ("x",), (("pin", 1, 1),), True)
        self.told(TWO, offers, ("x",), (("pin", 0, 0), ("pin", 1, 1)), True)

    def test_a_wish_that_is_met_in_some_worlds_left(self):
        for wish in (("",), ("x",)):
            self.told(TWO, OFF, wish, (), False)
        self.told(TWO, OFF, ("",), (("hide", 1, 0),), False)
        # Met in all worlds but the last one, and in the last one alone.
        self.told(LARGE, IDLE, ("",), (), False)
        self.told(LARGE, IDLE, ("y",), (), False)

    def test_a_wish_that_is_met_in_none(self):
        self.told(TWO, OFF, ("x",), (("hide", 0, 1),), False)
        self.told(TWO, OFF, ("q",), (), False)
        self.told(TWO, OFF, ("q",), (("pin", 1, 0),), False)

    def test_a_wish_for_several_steps(self):
        recipe = (TWO[0], TWO[1], (0, 1))
        offers = ((("pin", 0, 0), 1), (("pin", 1, 1), 1))
        acts = (("pin", 0, 0), ("pin", 1, 1))
        for one, other in itertools.product(("ax", "x", "", "a"), repeat=2):
            self.told(recipe, offers, (one, other), acts, (one, other) == ("ax", "x"))

    def test_bought_acts_that_leave_no_world_are_never_a_cure(self):
        for wish in (None, ("",), ("x",), ("q",)):
            self.told(TWO, NO_WORLD, wish, (("pin", 0, 0), ("pin", 0, 1)), False)
        constant = ((("a", "b"),), (("same", (("thing", 0), ("thing", 0))),), (0,))
        for wish in (None, ("y",)):
            self.told(constant, NO_WORLD, wish, (), True)
            self.told(constant, NO_WORLD, wish, (("pin", 0, 0), ("pin", 0, 1)), False)

    def test_many(self):
        for recipe, offers, wish in many_problems(150, 11):
            for acts in plain_bought(offers):
                self.told(recipe, offers, wish, acts, plain_is_cure(recipe, wish, acts))

    def test_wishes_with_too_few_and_too_many_texts(self):
        for recipe in (TWO, (TWO[0], TWO[1], (0, 1)), WIDE):
            for many in range(6):
                if many == len(recipe[2]):
                    is_cure(recipe, (), ("a",) * many, ())
                else:
                    refused(self, InvalidWish, is_cure, recipe, (), ("a",) * many, ())

    def test_a_text_of_2000_letters_and_of_2001(self):
        for many in (0, 1, 4, 5, 1999, 2000):
            self.told(TWO, OFF, ("z" * many,), (("hide", 0, 1),), many == 0)
        refused(self, InvalidWish, is_cure, TWO, OFF, ("z" * 2001,), ())
        for at in range(3):
            wish = ["", "b", "c"]
            wish[at] = "a" * 2000
            is_cure(WIDE, (), tuple(wish), ())
            wish[at] = "a" * 2001
            refused(self, InvalidWish, is_cure, WIDE, (), tuple(wish), ())

    def test_a_long_wish_that_is_met(self):
        steps = [("join", (("thing", 0), ("thing", 0)))]
        for at in range(7):
            steps.append(("join", (("step", at), ("step", at))))
        recipe = ((("abcd", "x"),), tuple(steps), (7,))
        offers = ((("pin", 0, 0), 1),)
        self.told(recipe, offers, ("abcd" * 256,), (("pin", 0, 0),), True)
        self.told(recipe, offers, ("abcd" * 255 + "abcx",), (("pin", 0, 0),), False)

    def test_letters_from_a_to_z_alone(self):
        for letter in "abcdefghijklmnopqrstuvwxyz":
            is_cure(TWO, OFF, (letter,), ())
        for letter in "AZ`{09 -_|;,\n\t\0\x7f\xe9\xdf\u0430\ud800":
            for text in (letter, "a" + letter, letter + "a", "a" * 1000 + letter + "a" * 900):
                refused(self, InvalidWish, is_cure, TWO, OFF, (text,), ())

    def test_other_kinds_of_wishes(self):
        for value in WRONG_WISHES + odd_values() + [[], ["a"], {"a": 1}, set("a"), frozenset("a"), "abc", range(1)]:
            # Of all these, two are wishes.
            if value is not None and repr(value) != "('thing',)":
                refused(self, InvalidWish, is_cure, TWO, OFF, value, ())
        for value in ["", "abc", 0, (), ["a", "b", "c"], {"a": 1, "b": 1, "c": 1}, (None, None, None)]:
            refused(self, InvalidWish, is_cure, WIDE, (), value, ())

    def test_another_kind_at_every_place_of_a_wish(self):
        for at in range(3):
            for value in [None, True, 0, b"a", ("a",), ["a"], {}, "A", "a" * 2001, Strange()]:
                wish = ["a", "b", "c"]
                wish[at] = value
                refused(self, InvalidWish, is_cure, WIDE, (), tuple(wish), ())

    def test_what_are_not_bought_acts(self):
        for wish in (None, ("",)):
            for value in WRONG_ACTS + odd_values() + [value for _, value in spoiled((("hide", 0, 1), ("pin", 1, 0)))]:
                refused(self, InvalidActs, is_cure, TWO, OFF, wish, value)

    def test_the_errors_in_their_sequence(self):
        for recipe in not_recipes() + odd_values():
            for offers, wish, acts in itertools.product((OFF, None), (None, "x"), ((), None)):
                refused(self, InvalidRecipe, is_cure, recipe, offers, wish, acts)
        for offers in WRONG_OFFERS + odd_values() + [value for _, value in spoiled(OFF)]:
            for wish, acts in itertools.product((None, "x"), ((), None)):
                refused(self, InvalidOffers, is_cure, TWO, offers, wish, acts)
        for wish in WRONG_WISHES:
            for acts in WRONG_ACTS:
                refused(self, InvalidWish, is_cure, TWO, OFF, wish, acts)

    def test_no_argument_is_modified(self):
        recipe, offers, wish, acts = copy.deepcopy((TWO, OFF, ("x",), (("hide", 0, 1),)))
        is_cure(recipe, offers, wish, acts)
        is_cure(recipe, offers, None, acts)
        self.assertEqual((recipe, offers, wish, acts), (TWO, OFF, ("x",), (("hide", 0, 1),)))
        for wrong in (["x"], [["x"]], {0: ["x"]}):
            before = copy.deepcopy(wrong)
            refused(self, InvalidWish, is_cure, TWO, OFF, wrong, ())
            self.assertEqual(wrong, before)


class Touches(unittest.TestCase):
    def test_the_example(self):
        self.assertIs(touches(TWO, ("hide", 0, 1), (1, 0)), False)

    def test_a_pin_touches_worlds_in_which_the_thing_has_another_text(self):
        for thing, text in itertools.product(range(2), range(2)):
            for world in worlds(TWO):
                self.assertIs(touches(TWO, ("pin", thing, text), world), world[thing] != text)
        for text in range(4):
            for world in worlds(WIDE):
                self.assertIs(touches(WIDE, ("pin", 0, text), world), world[0] != text)
                self.assertIs(touches(WIDE, ("pin", 2, 0), world), False)

    def test_a_pin_at_the_empty_text(self):
        self.assertIs(touches(TWO, ("pin", 1, 0), (0, 0)), False)
        self.assertIs(touches(TWO, ("pin", 1, 0), (0, 1)), True)
        self.assertIs(touches(TWO, ("pin", 1, 1), (0, 0)), True)

    def test_a_hiding_touches_worlds_in_which_the_text_is_not_empty(self):
        for world in worlds(TWO):
            self.assertIs(touches(TWO, ("hide", 0, 0), world), True)
            self.assertIs(touches(TWO, ("hide", 1, 0), world), True)
            self.assertIs(touches(TWO, ("hide", 0, 1), world), world[1] == 1)
        for world in worlds(WIDE):
            for step in (3, 5, 7):
                self.assertIs(touches(WIDE, ("hide", step, 1), world), world[1] == 1)

    def test_the_step_of_a_hiding_is_not_taken_for_its_thing(self):
        recipe = ((("a",), ("", "b")), (("sort", (("thing", 1),)), ("sort", (("thing", 0),))), (0,))
        self.assertIs(touches(recipe, ("hide", 0, 1), (0, 0)), False)
        self.assertIs(touches(recipe, ("hide", 0, 1), (0, 1)), True)
        self.assertIs(touches(recipe, ("hide", 1, 0), (0, 0)), True)

    def test_many(self):
        for recipe, _ in many_acts(60, 12):
            for act, world in itertools.product(all_acts(recipe), worlds(recipe)):
                self.assertIs(touches(recipe, act, world), plain_touches(recipe, act, world))

    def test_what_is_not_an_act(self):
        wrong = [("hide", 1, 1), ("pin", 2, 0), ("pin", 0, 2), ("hide", 2, 0), ("pin", -1, 0), ("pin", 0, -1),
                 ("pin", 0, True), ("pin", False, 0), ("hide", True, 0), ("Pin", 0, 0), ("pin", 0), ("pin", 0, 0, 0),
                 ["pin", 0, 0], (("pin", 0, 0),), (), "pin", (Strange(), 0, 0), ("pin", Strange(), 0)]
        for value in wrong + odd_values() + [value for _, value in spoiled(("hide", 0, 1))]:
            refused(self, InvalidAct, touches, TWO, value, (0, 0))

    def test_what_is_not_a_world(self):
        wrong = [(), (0,), (0, 0, 0), (0, 2), (2, 0), (-1, 0), [0, 0], (True, 0), (0, False), ("a", "x"), "ax"]
        for value in wrong + odd_values() + [value for _, value in spoiled((0, 0))]:
            for act in (("hide", 0, 1), ("pin", 0, 0)):
                refused(self, InvalidWorld, touches, TWO, act, value)

    def test_the_errors_in_their_sequence(self):
        for recipe in not_recipes() + odd_values() + [value for _, value in spoiled(TWO)]:
            for act, world in itertools.product((("pin", 0, 0), None), ((0, 0), None)):
                refused(self, InvalidRecipe, touches, recipe, act, world)
        for act in (None, ("pin", 0, 2), ("hide", 1, 1), [], (Strange(), 0, 0)):
            for world in (None, (0, 2), (0,), [], (True, True)):
                refused(self, InvalidAct, touches, TWO, act, world)

    def test_no_argument_is_modified(self):
        recipe, act, world = copy.deepcopy((TWO, ("hide", 0, 1), (0, 1)))
        touches(recipe, act, world)
        self.assertEqual((recipe, act, world), (TWO, ("hide", 0, 1), (0, 1)))
        for wrong in ([0, 1], [["pin"], 0, 0]):
            before = copy.deepcopy(wrong)
            refused(self, InvalidAct, touches, TWO, wrong, (0, 0))
            refused(self, InvalidWorld, touches, TWO, ("pin", 0, 0), wrong)
            self.assertEqual(wrong, before)


class ActsThatDoNotTouch(unittest.TestCase):
    def test_acts_that_touch_neither_of_two_worlds_leave_both_and_change_no_text_there(self):
        tried = 0
        for recipe, acts in many_acts(80, 13):
            for pair in itertools.combinations(worlds_left(recipe, acts), 2):
                idle = [act for act in all_acts(recipe)
                        if not touches(recipe, act, pair[0]) and not touches(recipe, act, pair[1])]
                more = tuple(sorted(set(acts) | set(idle[:12 - len(acts)])))
                left = worlds_left(recipe, more)
                tried += len(more) > len(acts)
                for world in pair:
                    self.assertIn(world, left)
                    self.assertEqual(texts_in(recipe, more, world), texts_in(recipe, acts, world))
        self.assertGreater(tried, 100)

    def test_a_pin_that_touches_a_world_does_not_leave_it(self):
        for recipe, acts in many_acts(80, 14):
            for world in worlds_left(recipe, acts):
                for act in all_acts(recipe):
                    if act[0] == "pin" and len(acts) < 12:
                        more = tuple(sorted(set(acts) | {act}))
                        self.assertIs(world in worlds_left(recipe, more), not touches(recipe, act, world))


if __name__ == "__main__":
    unittest.main()
