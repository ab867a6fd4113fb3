"""paper and is_paper: points [1], [10] and [11]."""

import copy
import itertools
import random
import time
import unittest

from samebuilds.cheapest import least_price
from samebuilds.errors import InvalidNumber, InvalidOffers, InvalidRecipe, InvalidWish
from samebuilds.papers import is_paper, paper
from tests.plain import (
    many_problems, plain_bought, plain_cheapest, plain_cures, plain_is_paper, plain_needed, plain_price, plain_reasons,
)
from tests.values import IDLE, LARGE, OFF, TWO, Strange, not_recipes, odd_values, places, put_at, refused, spoiled

A, B = (0, 0), (0, 1)
EDGE = ("unlike", (A, B))
HIDE, BARE, PIN = ("hide", 0, 1), ("hide", 1, 0), ("pin", 1, 0)

# Without a wish and for the price 1, each act that touches the second world is dear.
SHORT = [((), EDGE), ((HIDE,), ("dear",)), ((BARE,), ("dear",)), ((PIN,), ("dear",))]

# For the price 2, the hiding of thing 0 must be looked through further.
LONG = [
    ((), EDGE), ((HIDE,), ("dear",)), ((HIDE, BARE), ("dear",)), ((BARE,), EDGE), ((BARE, PIN), ("dear",)),
    ((PIN,), ("dear",)),
]

# Two pins of one thing leave no world; no cure is there for the wish.
PINS = ((("pin", 0, 0), 1), (("pin", 0, 1), 1))
WISHED = [
    ((), ("unlike", (A,))), ((("pin", 0, 0),), ("unlike", (A,))), ((("pin", 0, 0), ("pin", 0, 1)), ("none",)),
    ((("pin", 0, 1),), ("unlike", ((1, 0),))),
]

WRONG_OFFERS = [None, [], list(OFF), OFF[::-1], OFF + OFF, ((("pin", 0, 0), 10),), ((("pin", 0, 0), True),), ((),)]
WRONG_WISHES = [(), ("x", "x"), ["x"], "x", ("X",), ("a" * 2001,), (None,), 0, False, {}, (Strange(),)]
WRONG_PRICES = [-1, 100, 10 ** 30, -10 ** 30, True, False, None, "1", "", (), (1,), [1], b"1", {}, 1j, Strange()]


class Papers(unittest.TestCase):
    def right(self, recipe, offers, wish, price):
        found = paper(recipe, offers, wish, price)
        self.assertIs(type(found), list, (recipe, offers, wish, price))
        self.assertTrue(plain_is_paper(recipe, offers, wish, price, found), (recipe, offers, wish, price, found))
        self.assertIs(is_paper(recipe, offers, wish, price, found), True, (recipe, offers, wish, price, found))
        for entry in found:
            self.assertEqual([type(entry), type(entry[0]), type(entry[1])], [tuple, tuple, tuple])

    def told(self, recipe, offers, wish, least):
        for price in range(100):
            if least is None or price <= least:
                self.right(recipe, offers, wish, price)
            else:
                self.assertIsNone(paper(recipe, offers, wish, price))

    def test_the_example(self):
        self.assertIsNone(paper(TWO, OFF, None, 3))

    def test_each_price_of_the_example(self):
        self.told(TWO, OFF, None, 2)

    def test_wishes(self):
        self.told(TWO, OFF, ("",), 2)
        self.told(TWO, OFF, ("x",), None)
        self.told(TWO, OFF, ("q",), None)

    def test_no_cure_at_all(self):
        self.told(TWO, PINS, None, None)
        self.told(TWO, PINS, ("x",), None)
        self.told(TWO, OFF[1:2], None, None)

    def test_no_offers(self):
        self.told(TWO, (), None, None)
        self.told(TWO, (), ("x",), None)
        self.told(((("a",),), (("sort", (("thing", 0),)),), (0,)), (), None, 0)

    def test_a_recipe_that_is_same_without_any_act(self):
        constant = ((("a", "b"),), (("same", (("thing", 0), ("thing", 0))),), (0,))
        offers = ((("hide", 0, 0), 1), (("pin", 0, 0), 9))
        self.told(constant, offers, None, 0)
        self.told(constant, offers, ("y",), 0)
        self.told(constant, offers, ("",), None)

    def test_the_price_0(self):
        for recipe, offers, wish in [(TWO, OFF, None), (TWO, (), ("q",)), (LARGE, IDLE, ("y",))]:
            self.right(recipe, offers, wish, 0)
            self.assertIs(is_paper(recipe, offers, wish, 0, [((), ("dear",))]), True)
            everything = [(acts, ("dear",)) for acts in sorted(plain_bought(offers))]
            self.assertIs(is_paper(recipe, offers, wish, 0, everything), True)

    def test_many(self):
        for recipe, offers, wish in many_problems(120, 30):
            least = plain_cheapest(recipe, offers, wish)[0]
            for price in list(range(8)) + [20, 99]:
                if least is None or price <= least:
                    self.right(recipe, offers, wish, price)
                else:
                    self.assertIsNone(paper(recipe, offers, wish, price), (recipe, offers, wish, price))

    def test_eight_offers_in_a_recipe_with_256_worlds_within_a_few_seconds(self):
        began = time.perf_counter()
        for wish in (None, ("",)):
            found = paper(LARGE, IDLE, wish, 99)
            self.assertIs(is_paper(LARGE, IDLE, wish, 99, found), True)
        self.assertIsNone(paper(LARGE, IDLE[:7] + ((("pin", 2, 0), 9),), None, 10))
        self.assertIs(type(paper(LARGE, IDLE[:7] + ((("pin", 2, 0), 9),), None, 9)), list)
        self.assertLess(time.perf_counter() - began, 30)

    def test_a_new_list_at_every_call(self):
        first = paper(TWO, OFF, None, 1)
        before = list(first)
        first.clear()
        self.assertEqual(paper(TWO, OFF, None, 1), before)


class IsPaper(unittest.TestCase):
    def told(self, value, right, price=1, wish=None, offers=OFF, recipe=TWO):
        self.assertIs(is_paper(recipe, offers, wish, price, value), right, (wish, price, repr(value)[:1000]))

    def test_the_example(self):
        self.told([((), EDGE)], False)

    def test_right_papers(self):
        self.told(SHORT, True)
        self.told(SHORT, True, 0)
        self.told(LONG, True, 2)
        self.told(LONG, True, 1)
        self.told(WISHED, True, 99, ("x",), PINS)

    def test_a_right_paper_for_another_price(self):
        self.told(SHORT, False, 2)
        self.told(LONG, False, 3)
        self.told(LONG, False, 99)

    def test_an_act_that_touches_neither_world_is_not_needed(self):
        # The hiding of an empty text, and the pin at the text that both worlds have.
        recipe = ((("", "x"), ("a", "b")), (("join", (("thing", 0), ("thing", 1))),), (0,))
        offers = ((("hide", 0, 0), 1), (("hide", 0, 1), 9), (("pin", 0, 0), 1), (("pin", 1, 0), 9), (("pin", 1, 1), 9))
        least = [((), ("unlike", ((0, 0), (0, 1)))), ((("hide", 0, 1),), ("dear",)), ((("pin", 1, 0),), ("dear",)),
                 ((("pin", 1, 1),), ("dear",))]
        self.told(least, True, 9, None, offers, recipe)
        for at in range(4):
            self.told(least[:at] + least[at + 1:], False, 9, None, offers, recipe)
        for act in (("hide", 0, 0), ("pin", 0, 0)):
            self.told(sorted(least + [((act,), ("dear",))]), False, 9, None, offers, recipe)
            self.told(sorted(least + [((act,), ("unlike", ((0, 0), (0, 1))))]), False, 9, None, offers, recipe)
        self.told(sorted(least + [((("hide", 0, 0), ("hide", 0, 1)), ("dear",))]), True, 9, None, offers, recipe)

    def test_an_act_that_touches_one_of_the_two_worlds_is_needed(self):
        offers = ((PIN, 9), (("pin", 1, 1), 9))
        least = [((), EDGE), ((PIN,), ("dear",)), ((("pin", 1, 1),), ("dear",))]
        self.told(least, True, 9, None, offers)
        self.told(least[:2], False, 9, None, offers)
        self.told(least[:1] + least[2:], False, 9, None, offers)

    def test_without_the_entry_for_the_acts_without_any_act(self):
        self.told([], False)
        self.told([], False, 0)
        self.told(SHORT[1:], False)
        self.told(LONG[1:], False, 2)
        self.told(SHORT[1:], False, 0)

    def test_without_another_entry_that_is_needed(self):
        for value, price in ((SHORT, 1), (LONG, 2)):
            for at in range(1, len(value)):
                self.told(value[:at] + value[at + 1:], False, price)

    def test_what_a_further_entry_needs_must_be_there(self):
        further = ((HIDE, BARE), ("unlike", (A, (1, 1))))
        self.told(SHORT[:2] + [further] + SHORT[2:], False)
        self.told(SHORT[:2] + [further, ((HIDE, BARE, PIN), ("dear",))] + SHORT[2:], True)
        self.told(SHORT[:2] + [further, ((HIDE, PIN), ("dear",))] + SHORT[2:], False)

    def test_a_further_entry_with_worlds_that_no_further_act_touches(self):
        # Both worlds have the text at which thing 1 can be pinned.
        further = ((HIDE, BARE), ("unlike", (A, (1, 0))))
        self.told(SHORT[:2] + [further] + SHORT[2:], True)
        self.told(SHORT[:2] + [further, ((HIDE, BARE, PIN), ("dear",))] + SHORT[2:], True)

    def test_further_entries_with_right_reasons(self):
        self.told(SHORT[:2] + [((HIDE, BARE), ("dear",))] + SHORT[2:], True)
        self.told(SHORT[:2] + [((HIDE, BARE), ("dear",)), ((HIDE, BARE, PIN), ("dear",))] + SHORT[2:], True)
        self.told(SHORT[:2] + [((HIDE, BARE, PIN), ("dear",))] + SHORT[2:] + [], True)
        everything = [(acts, ("dear",)) for acts in sorted(plain_bought(OFF))]
        self.told([((), EDGE)] + everything[1:], True)
        self.told(everything, False)

    def test_further_entries_with_wrong_reasons(self):
        for reason in (("none",), ("unlike", (A, A)), ("unlike", (A, (1, 0))), ("unlike", (A, B)), ("dear", 1)):
            self.told(SHORT[:2] + [((HIDE, PIN), reason)] + SHORT[2:], False)
        everything = [(acts, ("dear",)) for acts in sorted(plain_bought(OFF))]
        self.told([LONG[0]] + everything[1:], False, 2)
        self.told([LONG[0]] + everything[1:5] + [LONG[3]] + everything[6:], True, 2)

    def test_a_wrong_reason_of_each_kind(self):
        for at in range(len(SHORT)):
            for reason in (("dear",), ("none",), ("unlike", (A, A)), ("unlike", ()), ("unlike", (A,))):
                if at == 0 or reason != ("dear",):
                    self.told(SHORT[:at] + [(SHORT[at][0], reason)] + SHORT[at + 1:], False)
        for at in range(len(WISHED)):
            for reason in (("dear",), ("none",), ("unlike", (B,)), ("unlike", ((1, 1),)), ("unlike", (A, A))):
                if (at, reason) != (2, ("none",)):
                    self.told(WISHED[:at] + [(WISHED[at][0], reason)] + WISHED[at + 1:], False, 99, ("x",), PINS)

    def test_dear_at_the_price_and_above_it(self):
        for price in range(100):
            self.told([((), ("dear",))], price == 0, price)
        offers = ((("hide", 0, 1), 4),)
        for price in range(10):
            self.told([((), EDGE), ((HIDE,), ("dear",))], price <= 4, price, None, offers)

    def test_none_though_dear_too_and_dear_though_none(self):
        both = (("pin", 0, 0), ("pin", 0, 1))
        for price in range(5):
            value = WISHED[:2] + [(both, ("dear",))] + WISHED[3:]
            self.told(value, price <= 2, price, ("x",), PINS)
            self.told(WISHED, True, price, ("x",), PINS)

    def test_two_worlds_in_either_order(self):
        for one, other in itertools.product([(0, 0), (0, 1), (1, 0), (1, 1)], repeat=2):
            self.told([((), ("unlike", (one, other)))] + SHORT[1:], one[1] != other[1])

    def test_the_same_world_twice(self):
        for world in (A, B):
            self.told([((), ("unlike", (world, world)))] + SHORT[1:], False)

    def test_a_world_that_is_not_left(self):
        value = [
            ((), EDGE), ((("pin", 0, 0),), EDGE), ((("pin", 0, 0), ("pin", 0, 1)), ("none",)), ((("pin", 0, 1),), EDGE)]
        fine = [
            ((), EDGE), ((("pin", 0, 0),), EDGE), ((("pin", 0, 0), ("pin", 0, 1)), ("none",)),
            ((("pin", 0, 1),), ("unlike", ((1, 1), (1, 0))))]
        self.told(fine, True, 99, None, PINS)
        self.told(value, False, 99, None, PINS)
        for pair in (((1, 0), B), (B, (1, 0)), ((1, 1), A), (A, (1, 1))):
            self.told(fine[:3] + [((("pin", 0, 1),), ("unlike", pair))], False, 99, None, PINS)
        self.told(WISHED[:3] + [((("pin", 0, 1),), ("unlike", (A,)))], False, 99, ("x",), PINS)

    def test_three_worlds_and_no_world(self):
        for some in ((A, B, A), (A, B, (1, 1)), (A, B, (1, 0)), (A, A, B), (A, B, B), ()):
            for wish in (None, ("x",)):
                self.told([((), ("unlike", some))] + SHORT[1:], False, 1, wish)

    def test_one_world_with_the_wish_none(self):
        for world in (A, B):
            self.told([((), ("unlike", (world,)))] + SHORT[1:], False)
            self.told([((), ("unlike", (world,)))], False, 99, None, ())
        self.told([((), EDGE)], True, 99, None, ())

    def test_one_world_with_another_wish(self):
        for world in (A, B, (1, 0), (1, 1)):
            self.told([((), ("unlike", (world,)))], world[1] == 0, 99, ("x",), ())
            self.told([((), ("unlike", (world,)))], world[1] == 1, 99, ("",), ())
            self.told([((), ("unlike", (world,)))], True, 99, ("q",), ())

    def test_two_worlds_with_another_wish(self):
        for one, other in itertools.product([(0, 0), (0, 1), (1, 0), (1, 1)], repeat=2):
            for wish in (("x",), ("",), ("q",)):
                self.told([((), ("unlike", (one, other)))], one[1] != other[1], 99, wish, ())
        self.told(SHORT, True, 1, ("x",))
        self.told(SHORT, True, 1, ("",))

    def test_acts_needed_by_one_of_the_two_worlds_with_a_wish(self):
        self.told([((), ("unlike", (A,))), ((BARE,), ("dear",))], True, 1, ("x",))
        self.told([((), EDGE), ((BARE,), ("dear",))], False, 1, ("x",))
        self.told([((), ("unlike", (A,)))], False, 1, ("x",))

    def test_worlds_that_are_no_worlds(self):
        for world in ((0,), (0, 0, 0), (0, 2), (2, 0), (-1, 0), (0, True), (False, 1), [0, 1], ("a", "x"), None, (), 1):
            for some in ((A, world), (world, A), (world, B), (world, world)):
                self.told([((), ("unlike", some))] + SHORT[1:], False)
            self.told([((), ("unlike", (world,)))], False, 99, ("q",), ())

    def test_entries_that_are_not_ascending(self):
        for value, price in ((SHORT, 1), (LONG, 2)):
            for other in itertools.permutations(value) if len(value) < 5 else [value[::-1], value[1:] + value[:1]]:
                self.told(list(other), list(other) == value, price)

    def test_the_same_bought_acts_twice(self):
        for at in range(len(SHORT)):
            self.told(SHORT[:at + 1] + SHORT[at:], False)
        self.told([((), ("dear",)), ((), EDGE)] + SHORT[1:], False, 0)
        self.told([((), EDGE), ((), ("unlike", (B, A)))] + SHORT[1:], False)
        both = (("pin", 0, 0), ("pin", 0, 1))
        self.told(WISHED[:2] + [(both, ("dear",)), (both, ("none",))] + WISHED[3:], False, 1, ("x",), PINS)

    def test_acts_that_are_not_offered(self):
        for act in (("hide", 0, 0), ("pin", 0, 0), ("pin", 1, 1), ("hide", 1, 1), ("pin", 9, 0)):
            self.told(sorted(SHORT + [((act,), ("dear",))]), False)
            self.told(sorted(SHORT + [((act,), ("dear",))]), False, 0)
        self.told(sorted(SHORT + [((BARE, HIDE), ("dear",))]), False)
        self.told(sorted(SHORT + [((HIDE, HIDE), ("dear",))]), False)

    def test_another_kind_in_place_of_the_list(self):
        for value in odd_values() + [tuple(SHORT), dict(SHORT), set(SHORT), SHORT[0], (), {}, "", iter(SHORT)]:
            self.told(value, False)
            self.told(value, False, 0)

    def test_another_kind_at_every_place(self):
        for value, price, wish, offers in (
                (SHORT, 1, None, OFF), (LONG, 2, None, OFF), (WISHED, 3, ("x",), PINS), ([((), ("dear",))], 0, None, OFF)):
            for path, other in spoiled(tuple(value)):
                if path:
                    self.told(list(other), False, price, wish, offers)

    def test_a_list_in_place_of_a_tuple(self):
        for path in places(tuple(SHORT))[1:]:
            for new in ([], [()], list(SHORT[0]), ["dear"], ["none"], [A, B], list(A)):
                self.told(list(put_at(tuple(SHORT), path, new)), False)

    def test_reasons_and_entries_of_another_length(self):
        for reason in ((), ("dear", 1), ("dear", ()), ("none", ()), ("unlike",), ("unlike", A, B), ("unlike", (A, B), ()),
                       ("Dear",), ("dea",), ("",), "dear", ("dear",) * 2, (("dear",),), (Strange(),), (None,), (A, B)):
            self.told([((), reason)], False, 0)
            self.told([((), reason)] + SHORT[1:], False)
        for entry in (((),), ((), ("dear",), ()), (("dear",), ()), ((), "dear"), ()):
            self.told([entry], False, 0)

    def test_papers_that_were_changed(self):
        chance = random.Random(31)
        count = {True: 0, False: 0}
        for recipe, offers, wish in many_problems(120, 32, 4):
            for price in (1, 2, 4, 9):
                found = paper(recipe, offers, wish, price) or []
                for _ in range(12):
                    value = self.changed(chance, recipe, offers, wish, price, found)
                    right = plain_is_paper(recipe, offers, wish, price, value)
                    count[right] += 1
                    self.assertIs(is_paper(recipe, offers, wish, price, value), right, (recipe, offers, wish, value))
        self.assertGreater(min(count.values()), 500)

    def changed(self, chance, recipe, offers, wish, price, value):
        """Return a paper with up to two changes, most of which leave its entries right and ascending."""
        value = list(value)
        for _ in range(chance.randint(1, 2)):
            kind = chance.randint(0, 3)
            acts = chance.choice(plain_bought(offers))
            reasons = plain_reasons(recipe, offers, wish, price, acts)
            if kind == 0 and value:
                value.pop(chance.randrange(len(value)))
            elif kind == 1:
                value = [entry for entry in value if entry[0] != acts]
                value.append((acts, chance.choice(reasons or [("dear",), ("none",)])))
            elif kind == 2:
                value.append((acts, chance.choice([("dear",), ("none",)] + reasons)))
            else:
                self.complete(chance, recipe, offers, wish, price, value)
        return sorted(value) if chance.randint(0, 19) else value

    def complete(self, chance, recipe, offers, wish, price, value):
        """Add what is needed, as far as there are right reasons for it."""
        waiting = [()] + [needed for acts, reason in value for needed in plain_needed(recipe, offers, acts, reason)]
        while waiting:
            acts = waiting.pop()
            reasons = plain_reasons(recipe, offers, wish, price, acts)
            if reasons and acts not in [entry[0] for entry in value]:
                reason = chance.choice(reasons)
                value.append((acts, reason))
                waiting.extend(sorted(plain_needed(recipe, offers, acts, reason)))

    def test_no_paper_is_there_if_a_cure_has_a_lesser_price(self):
        # All lists of right entries, with each of some bought acts at most once.
        recipe = ((("a", "b"),), (("sort", (("thing", 0),)), ("less", (("thing", 0), ("step", 0)))), (0,))
        offers = ((("hide", 0, 0), 1), (("pin", 0, 0), 2))
        for wish, price in itertools.product((None, ("",), ("a",), ("q",)), range(5)):
            choices = []
            for acts in sorted(plain_bought(offers)):
                reasons = plain_reasons(recipe, offers, wish, price, acts)
                choices.append([None] + [(acts, reason) for reason in reasons])
            least = plain_cheapest(recipe, offers, wish)[0]
            found = [is_paper(recipe, offers, wish, price, [entry for entry in value if entry is not None])
                     for value in itertools.product(*choices)]
            self.assertIs(any(found), least is None or price <= least)


class Agreement(unittest.TestCase):
    def test_a_paper_is_there_if_and_only_if_no_cure_has_a_lesser_price(self):
        for recipe, offers, wish in many_problems(80, 33):
            prices = [plain_price(offers, acts) for acts in plain_cures(recipe, offers, wish)]
            for price in range(0, 17):
                found = paper(recipe, offers, wish, price)
                self.assertIs(found is not None, not any(one < price for one in prices))
                self.assertIs(found is None, least_price(recipe, offers, wish) is not None
                              and least_price(recipe, offers, wish) < price)


class Wrong(unittest.TestCase):
    def refused(self, error, recipe, offers, wish, price):
        refused(self, error, paper, recipe, offers, wish, price)
        for value in ([], SHORT, None, [((), ("dear",))]):
            refused(self, error, is_paper, recipe, offers, wish, price, value)

    def test_the_recipe_is_refused_first(self):
        for recipe in not_recipes() + odd_values():
            self.refused(InvalidRecipe, recipe, OFF, None, 1)
        for offers, wish, price in itertools.product([OFF, None], [None, "x"], [1, 100, True]):
            self.refused(InvalidRecipe, TWO[:2], offers, wish, price)

    def test_the_offers_are_refused_second(self):
        for offers in odd_values() + [value for _, value in spoiled(OFF)]:
            self.refused(InvalidOffers, TWO, offers, None, 1)
        for offers, wish, price in itertools.product(WRONG_OFFERS, [None, "x"], [1, 100, True]):
            self.refused(InvalidOffers, TWO, offers, wish, price)

    def test_the_wish_is_refused_third(self):
        for wish, price in itertools.product(WRONG_WISHES, [0, 1, 99] + WRONG_PRICES):
            self.refused(InvalidWish, TWO, OFF, wish, price)

    def test_the_price_is_refused_fourth(self):
        for wish, price in itertools.product([None, ("x",)], WRONG_PRICES + odd_values()):
            if repr(price) != "99":
                self.refused(InvalidNumber, TWO, OFF, wish, price)

    def test_prices_from_0_to_99(self):
        for price in range(-5, 106):
            if 0 <= price <= 99:
                paper(TWO, OFF, None, price)
                is_paper(TWO, OFF, None, price, SHORT)
            else:
                self.refused(InvalidNumber, TWO, OFF, None, price)

    def test_no_argument_is_modified(self):
        for values in ((TWO, OFF, None, 2), (TWO, OFF, ("x",), 99), (TWO, PINS, ("x",), 99)):
            before = copy.deepcopy(values)
            paper(*values)
            self.assertEqual(values, before)
            for value in (SHORT, LONG, WISHED, [[], ["dear"]], [[[], ["dear"]]], {0: [1]}, SHORT[::-1]):
                kept = copy.deepcopy(value)
                is_paper(*values, value)
                self.assertEqual((values, value), (before, kept))


if __name__ == "__main__":
    unittest.main()
