"""The class Desk: points [1] and [19]."""

import copy
import random
import unittest

from samebuilds.desk import Desk
from samebuilds.errors import Bought, InvalidOffers, InvalidRecipe, NothingToUndo, NotOffered
from samebuilds.recipes import are_acts
from tests.plain import all_acts, many_problems, plain_classes, plain_price
from tests.values import IDLE, LARGE, OFF, TWO, Strange, not_recipes, odd_values, refused, spoiled

HIDE = ("hide", 0, 1)
LESS = ("hide", 1, 0)
PIN = ("pin", 1, 0)

# Two pins of one thing, which leave no world together.
PINS = ((("hide", 0, 0), 4), (("pin", 0, 0), 1), (("pin", 0, 1), 2))
WRONG_OFFERS = [None, [], list(OFF), OFF[::-1], OFF + OFF, ((PIN, 10),), ((PIN, 0),), ((PIN, True),), ((),), (PIN,),
                ((HIDE, 1), (HIDE, 2)), ((("hide", 1, 1), 1),), {}, "", 0]


class EqualToAll:
    """An object that says that it is equal to whatever it is compared with."""

    __hash__ = None

    def __eq__(self, other):
        return True


class Plain:
    """A desk once more: the bought acts as a set, and all sets of bought acts that were there before."""

    def __init__(self, recipe, offers):
        self.recipe, self.offers, self.bought, self.before = recipe, offers, set(), []

    def step(self, act):
        self.before.append((act, set(self.bought)))
        self.bought ^= {act}

    def acts(self):
        return tuple(sorted(self.bought))

    def undo(self):
        act, self.bought = self.before.pop()
        return act


class Checked(unittest.TestCase):
    def told(self, desk, acts, price):
        """Let the test fail unless these are the bought acts of a desk, and this their price."""
        self.assertEqual(desk.acts(), acts)
        self.assertEqual(type(desk.acts()), tuple)
        self.assertEqual(desk.price(), price)
        self.assertEqual(type(desk.price()), int)
        self.assertEqual(len(desk), len(acts))
        self.assertEqual(str(desk), str(price))


class Buying(Checked):
    def test_the_examples(self):
        desk = Desk(TWO, OFF)
        self.assertEqual(desk.buy(("hide", 0, 1)), 1)
        self.assertEqual(str(desk), "2")
        self.assertEqual(desk.acts(), (("hide", 0, 1),))
        self.assertEqual(desk.price(), 2)
        self.assertEqual(desk.undo(), ("hide", 0, 1))
        self.told(desk, (), 0)

    def test_a_new_desk(self):
        self.told(Desk(TWO, OFF), (), 0)
        self.told(Desk(TWO, ()), (), 0)
        self.told(Desk(LARGE, IDLE), (), 0)

    def test_acts_are_ascending_in_whatever_sequence_they_were_bought(self):
        for sequence in ((HIDE, LESS, PIN), (PIN, LESS, HIDE), (LESS, PIN, HIDE), (PIN, HIDE, LESS)):
            desk = Desk(TWO, OFF)
            for act in sequence:
                desk.buy(act)
            self.told(desk, (HIDE, LESS, PIN), 6)

    def test_the_number_of_classes(self):
        desk = Desk(TWO, OFF)
        self.assertEqual(desk.buy(LESS), 4)
        self.assertEqual(desk.buy(HIDE), 2)
        self.assertEqual(desk.buy(PIN), 2)
        self.assertEqual(Desk(TWO, OFF).buy(PIN), 1)
        self.assertEqual(Desk(LARGE, IDLE).buy(("hide", 4, 0)), 2)

    def test_no_world_is_left(self):
        desk = Desk(TWO, PINS)
        self.assertEqual(desk.buy(("pin", 0, 0)), 2)
        self.assertEqual(desk.buy(("pin", 0, 1)), 0)
        self.told(desk, (("pin", 0, 0), ("pin", 0, 1)), 3)
        self.assertEqual(desk.buy(("hide", 0, 0)), 0)
        self.assertEqual(desk.give_back(("pin", 0, 0)), 1)
        self.told(desk, (("hide", 0, 0), ("pin", 0, 1)), 6)

    def test_giving_back(self):
        desk = Desk(TWO, OFF)
        for act in (HIDE, PIN):
            desk.buy(act)
        self.assertEqual(desk.give_back(HIDE), 2)
        self.told(desk, (PIN,), 3)
        self.assertEqual(desk.give_back(PIN), 3)
        self.told(desk, (), 0)
        self.assertEqual(desk.buy(HIDE), 1)
        self.told(desk, (HIDE,), 2)

    def test_all_offers(self):
        desk = Desk(LARGE, IDLE)
        for act, _ in IDLE:
            self.assertEqual(desk.buy(act), 2)
        self.told(desk, tuple(act for act, _ in IDLE), 19)
        for act, price in IDLE:
            self.assertEqual(desk.give_back(act), price)
        self.told(desk, (), 0)

    def test_equal_texts_of_acts_that_are_other_objects(self):
        desk = Desk(TWO, OFF)
        desk.buy(("hide", int("0"), 1))
        refused(self, Bought, desk.buy, tuple(["hide", 0, 1]))
        self.assertEqual(desk.give_back(tuple(["hide", 0, 1])), 2)


class Undoing(Checked):
    def test_back_to_the_beginning_and_one_step_further(self):
        desk = Desk(TWO, OFF)
        refused(self, NothingToUndo, desk.undo)
        for act in (PIN, HIDE, LESS):
            desk.buy(act)
        self.assertEqual(desk.undo(), LESS)
        self.told(desk, (HIDE, PIN), 5)
        self.assertEqual(desk.undo(), HIDE)
        self.told(desk, (PIN,), 3)
        self.assertEqual(desk.undo(), PIN)
        self.told(desk, (), 0)
        for _ in range(2):
            refused(self, NothingToUndo, desk.undo)
            self.told(desk, (), 0)

    def test_an_act_that_was_given_back(self):
        desk = Desk(TWO, OFF)
        desk.buy(HIDE)
        desk.buy(PIN)
        desk.give_back(HIDE)
        self.assertEqual(desk.undo(), HIDE)
        self.told(desk, (HIDE, PIN), 5)
        self.assertEqual(desk.undo(), PIN)
        self.assertEqual(desk.undo(), HIDE)
        self.told(desk, (), 0)
        refused(self, NothingToUndo, desk.undo)

    def test_an_act_bought_and_given_back_several_times(self):
        desk = Desk(TWO, OFF)
        for _ in range(3):
            desk.buy(HIDE)
            desk.give_back(HIDE)
        for expected in ((HIDE,), (), (HIDE,), (), (HIDE,), ()):
            self.assertEqual(desk.undo(), HIDE)
            self.assertEqual(desk.acts(), expected)
        refused(self, NothingToUndo, desk.undo)

    def test_steps_that_are_undone_cannot_be_done_again_nor_undone_once_more(self):
        desk = Desk(TWO, OFF)
        desk.buy(HIDE)
        desk.buy(LESS)
        desk.undo()
        desk.buy(PIN)
        self.told(desk, (HIDE, PIN), 5)
        self.assertEqual(desk.undo(), PIN)
        self.assertEqual(desk.undo(), HIDE)
        refused(self, NothingToUndo, desk.undo)

    def test_an_act_can_be_bought_anew_when_its_step_is_undone(self):
        desk = Desk(TWO, OFF)
        desk.buy(HIDE)
        desk.undo()
        refused(self, Bought, desk.give_back, HIDE)
        self.assertEqual(desk.buy(HIDE), 1)
        self.assertEqual(desk.give_back(HIDE), 2)
        desk.undo()
        refused(self, Bought, desk.buy, HIDE)
        self.told(desk, (HIDE,), 2)

    def test_many_steps(self):
        desk = Desk(TWO, OFF)
        for _ in range(300):
            for act in (HIDE, PIN):
                desk.buy(act)
            for act in (HIDE, PIN):
                desk.give_back(act)
        for _ in range(300):
            self.assertEqual([desk.undo() for _ in range(4)], [PIN, HIDE, PIN, HIDE])
        refused(self, NothingToUndo, desk.undo)
        self.told(desk, (), 0)


class Duplicates(Checked):
    def test_nothing_done_before_can_be_undone(self):
        desk = Desk(TWO, OFF)
        desk.buy(HIDE)
        desk.buy(PIN)
        other = desk.duplicate()
        self.assertIs(type(other), Desk)
        self.assertIsNot(other, desk)
        self.told(other, (HIDE, PIN), 5)
        self.assertTrue(desk == other)
        refused(self, NothingToUndo, other.undo)
        self.told(other, (HIDE, PIN), 5)
        self.assertEqual(desk.undo(), PIN)
        self.told(other, (HIDE, PIN), 5)

    def test_it_changes_on_its_own(self):
        desk = Desk(TWO, OFF)
        desk.buy(HIDE)
        other = desk.duplicate()
        other.buy(LESS)
        self.told(desk, (HIDE,), 2)
        self.told(other, (HIDE, LESS), 3)
        desk.buy(PIN)
        self.told(desk, (HIDE, PIN), 5)
        self.told(other, (HIDE, LESS), 3)
        other.give_back(HIDE)
        self.told(desk, (HIDE, PIN), 5)
        self.told(other, (LESS,), 1)
        self.assertEqual([other.undo(), other.undo()], [HIDE, LESS])
        refused(self, NothingToUndo, other.undo)
        self.told(other, (HIDE,), 2)
        self.told(desk, (HIDE, PIN), 5)
        self.assertEqual([desk.undo(), desk.undo()], [PIN, HIDE])
        refused(self, NothingToUndo, desk.undo)

    def test_steps_that_were_undone_ahead_of_the_duplication(self):
        desk = Desk(TWO, OFF)
        desk.buy(HIDE)
        desk.buy(PIN)
        desk.undo()
        other = desk.duplicate()
        self.told(other, (HIDE,), 2)
        refused(self, NothingToUndo, other.undo)
        self.assertEqual(desk.undo(), HIDE)

    def test_a_duplicate_of_a_duplicate(self):
        desk = Desk(TWO, OFF)
        desk.buy(HIDE)
        one = desk.duplicate()
        one.buy(PIN)
        two = one.duplicate()
        refused(self, NothingToUndo, two.undo)
        self.told(two, (HIDE, PIN), 5)
        self.assertEqual(one.undo(), PIN)
        refused(self, NothingToUndo, one.undo)
        self.told(two, (HIDE, PIN), 5)

    def test_the_duplicate_of_a_new_desk(self):
        other = Desk(TWO, OFF).duplicate()
        self.told(other, (), 0)
        refused(self, NothingToUndo, other.undo)
        self.assertEqual(other.buy(HIDE), 1)
        refused(self, NotOffered, other.buy, ("pin", 0, 0))


class Equal(unittest.TestCase):
    def equal(self, one, other, expected):
        for desk, two in ((one, other), (other, one)):
            self.assertIs(desk == two, expected)
            self.assertIs(desk != two, not expected)

    def test_equal_desks(self):
        self.equal(Desk(TWO, OFF), Desk(TWO, OFF), True)
        self.equal(Desk(TWO, OFF), Desk(copy.deepcopy(TWO), copy.deepcopy(OFF)), True)
        desk = Desk(TWO, OFF)
        self.equal(desk, desk, True)

    def test_another_recipe(self):
        self.equal(Desk(TWO, OFF), Desk((TWO[0], TWO[1], (0,)), OFF), False)
        self.equal(Desk(TWO, ()), Desk((TWO[0], TWO[1][:1], (0,)), ()), False)
        self.equal(Desk(TWO, ()), Desk(((("a", "b"), ("", "y")), TWO[1], (1,)), ()), False)

    def test_other_offers(self):
        self.equal(Desk(TWO, OFF), Desk(TWO, OFF[:2]), False)
        self.equal(Desk(TWO, OFF), Desk(TWO, ()), False)
        self.equal(Desk(TWO, OFF), Desk(TWO, OFF[:2] + ((PIN, 4),)), False)
        # The same acts at the same price, of other offers.
        one, other = Desk(TWO, OFF), Desk(TWO, OFF[:1])
        one.buy(HIDE)
        other.buy(HIDE)
        self.equal(one, other, False)

    def test_other_bought_acts(self):
        one, other = Desk(TWO, OFF), Desk(TWO, OFF)
        one.buy(HIDE)
        self.equal(one, other, False)
        other.buy(LESS)
        self.equal(one, other, False)
        other.buy(HIDE)
        self.equal(one, other, False)
        one.buy(LESS)
        self.equal(one, other, True)
        # Other acts at the same price.
        one.give_back(LESS)
        one.give_back(HIDE)
        one.buy(PIN)
        self.assertEqual(one.price(), other.price())
        self.equal(one, other, False)

    def test_other_steps(self):
        one, other = Desk(TWO, OFF), Desk(TWO, OFF)
        one.buy(HIDE)
        one.buy(PIN)
        other.buy(PIN)
        other.buy(LESS)
        other.buy(HIDE)
        other.give_back(LESS)
        self.equal(one, other, True)
        one.give_back(HIDE)
        other.undo()
        other.undo()
        other.undo()
        self.equal(one, other, True)
        self.equal(one, one.duplicate(), True)
        one.undo()
        self.equal(one, one.duplicate(), True)

    def test_any_other_object(self):
        desk = Desk(TWO, ())
        for value in odd_values() + [(), 0, "0", "", [], TWO, (TWO, ()), (TWO, (), ()), EqualToAll(), Desk, "desk"]:
            self.assertIs(desk == value, False)
            self.assertIs(desk != value, True)

    def test_objects_with_the_same_attributes(self):
        class Other:
            """An object with all that a desk holds."""

        desk, other = Desk(TWO, OFF), Other()
        other.__dict__.update(vars(desk))
        self.assertIs(desk == other, False)


class Wrong(Checked):
    def test_the_recipe_is_refused_first(self):
        for recipe in not_recipes() + odd_values() + [value for _, value in spoiled(TWO)]:
            for offers in (OFF, (), None):
                refused(self, InvalidRecipe, Desk, recipe, offers)

    def test_offers(self):
        for offers in WRONG_OFFERS + odd_values() + [value for _, value in spoiled(OFF)]:
            refused(self, InvalidOffers, Desk, TWO, offers)

    def test_acts_that_are_not_offered(self):
        desk = Desk(TWO, OFF)
        desk.buy(PIN)
        others = [act for act in all_acts(TWO) if act not in (HIDE, LESS, PIN)]
        self.assertEqual(len(others), 4)
        for act in others + odd_values() + [value for _, value in spoiled(HIDE)] + [
                (), (HIDE,), (HIDE, 2), (PIN, 3), HIDE + (2,), list(HIDE), list(PIN), ("hide", 0, True), "hide 0 1",
                ("pin", True, False), ("pin", 1, False), ("pin", 1, 2), ("pin", 2, 0), ("hide", 1, 1), ("hide", 2, 0),
                ("hide", False, 1), ("sell", 0, 1), ("pin", -1, 0), [HIDE], {HIDE}, OFF, Strange(), (Strange(),) * 3]:
            for call in (desk.buy, desk.give_back):
                refused(self, NotOffered, call, act)
        self.told(desk, (PIN,), 3)

    def test_nothing_is_offered(self):
        desk = Desk(TWO, ())
        for act in all_acts(TWO):
            refused(self, NotOffered, desk.buy, act)
            refused(self, NotOffered, desk.give_back, act)
        refused(self, NothingToUndo, desk.undo)

    def test_acts_bought_already_and_acts_not_bought(self):
        desk = Desk(TWO, OFF)
        refused(self, Bought, desk.give_back, HIDE)
        desk.buy(HIDE)
        refused(self, Bought, desk.buy, HIDE)
        refused(self, Bought, desk.give_back, PIN)
        desk.give_back(HIDE)
        refused(self, Bought, desk.give_back, HIDE)
        desk.buy(HIDE)
        self.told(desk, (HIDE,), 2)

    def test_a_call_that_raises_changes_nothing(self):
        desk = Desk(TWO, OFF)
        desk.buy(HIDE)
        desk.buy(PIN)
        desk.give_back(HIDE)
        for _ in range(3):
            before = desk.duplicate()
            for call, act, error in ((desk.buy, PIN, Bought), (desk.give_back, HIDE, Bought),
                                     (desk.give_back, LESS, Bought), (desk.buy, ("pin", 0, 0), NotOffered),
                                     (desk.give_back, None, NotOffered), (desk.buy, Strange(), NotOffered)):
                refused(self, error, call, act)
            self.assertTrue(desk == before)
            self.told(desk, (PIN,), 3)
        self.assertEqual([desk.undo(), desk.undo(), desk.undo()], [HIDE, PIN, HIDE])
        refused(self, NothingToUndo, desk.undo)
        refused(self, NothingToUndo, desk.undo)
        self.assertEqual(desk.buy(HIDE), 1)
        self.assertEqual(desk.undo(), HIDE)

    def test_no_argument_is_modified(self):
        recipe, offers = copy.deepcopy((TWO, OFF))
        desk = Desk(recipe, offers)
        for act in (HIDE, PIN):
            desk.buy(act)
        desk.give_back(HIDE)
        desk.undo()
        desk.duplicate()
        self.assertEqual((recipe, offers), (TWO, OFF))
        for wrong in (list(HIDE), [[0], 1], {0: [1]}):
            before = copy.deepcopy(wrong)
            refused(self, NotOffered, desk.buy, wrong)
            refused(self, NotOffered, desk.give_back, wrong)
            refused(self, InvalidRecipe, Desk, wrong, OFF)
            refused(self, InvalidOffers, Desk, TWO, wrong)
            self.assertEqual(wrong, before)


class Many(Checked):
    def run_steps(self, recipe, offers, chance, count):
        """Do so many steps at a desk and at a plain one, and let the test fail unless they agree."""
        desk, plain = Desk(recipe, offers), Plain(recipe, offers)
        prices = dict(offers)
        for _ in range(count):
            act = chance.choice(all_acts(recipe))
            word = chance.choice(("buy", "buy", "give", "undo", "duplicate"))
            if word == "undo":
                if plain.before:
                    self.assertEqual(desk.undo(), plain.undo())
                else:
                    refused(self, NothingToUndo, desk.undo)
            elif word == "duplicate":
                if chance.randint(0, 2) == 0:
                    desk = desk.duplicate()
                    plain.before = []
            elif act not in prices:
                refused(self, NotOffered, desk.buy if word == "buy" else desk.give_back, act)
            elif (act in plain.bought) == (word == "buy"):
                refused(self, Bought, desk.buy if word == "buy" else desk.give_back, act)
            else:
                plain.step(act)
                if word == "buy":
                    self.assertEqual(desk.buy(act), len(plain_classes(recipe, plain.acts())))
                else:
                    self.assertEqual(desk.give_back(act), prices[act])
            self.told(desk, plain.acts(), plain_price(offers, plain.acts()))
            self.assertIs(are_acts(recipe, desk.acts()), True)

    def test_many_steps_at_many_desks(self):
        chance = random.Random(120)
        for recipe, offers, _ in many_problems(60, 121, 8):
            self.run_steps(recipe, offers, chance, 60)
        for _ in range(10):
            self.run_steps(TWO, OFF, chance, 60)
            self.run_steps(TWO, PINS, chance, 60)


if __name__ == "__main__":
    unittest.main()
