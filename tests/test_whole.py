"""The whole program once more: what each function of the interface returns, and what it refuses, in its sequence."""

import copy
import importlib
import itertools
import unittest

from samebuilds import errors
from samebuilds.desk import Desk
from tests.test_form import DEFINED, DESK
from tests.values import OFF, TWO, Strange, nested, refused

HIDE = ("hide", 0, 1)
TRIMMED_TWO = (
    (('a', 'b'), ('', 'x')),
    (('join', (('thing', 0), ('thing', 1))), ('less', (('step', 0), ('thing', 0)))),
    (1,),
)

# Each example of the interface with its arguments and what it returns, and one more for each function without one.
EXAMPLES = [
    ("recipes", "is_recipe", (TWO,), True),
    ("recipes", "worlds", (TWO,), [(0, 0), (0, 1), (1, 0), (1, 1)]),
    ("recipes", "are_acts", (TWO, (("hide", 1, 1),)), False),
    ("making", "texts_in", (TWO, (), (0, 1)), ('ax', 'x')),
    ("making", "outcome", (TWO, (("hide", 1, 0),), (0, 1)), ('ax',)),
    ("sameness", "worlds_left", (TWO, (("pin", 1, 0),)), [(0, 0), (1, 0)]),
    ("sameness", "is_same", (TWO, (HIDE,)), True),
    ("sameness", "first_parting", (TWO, ()), ((0, 0), (0, 1))),
    ("sameness", "classes", (TWO, ()), [(('',), [(0, 0), (1, 0)]), (('x',), [(0, 1), (1, 1)])]),
    ("offers", "are_offers", (TWO, OFF), True),
    ("offers", "price_of", (TWO, OFF, (HIDE, ("pin", 1, 0))), 5),
    ("offers", "is_cure", (TWO, OFF, None, (HIDE, ("hide", 1, 0))), False),
    ("offers", "touches", (TWO, HIDE, (1, 0)), False),
    ("cheapest", "least_price", (TWO, OFF, None), 2),
    ("cheapest", "all_cheapest", (TWO, OFF, ("x",)), []),
    ("cheapest", "sure_acts", (TWO, OFF, None), [('hide', 0, 1)]),
    ("papers", "paper", (TWO, OFF, None, 3), None),
    ("papers", "is_paper", (TWO, OFF, None, 1, [((), ("unlike", ((0, 0), (0, 1))))]), False),
    ("budgets", "fewest_classes", (TWO, OFF, 1), 2),
    ("budgets", "trades", (TWO, OFF), [(0, 2), (2, 1)]),
    ("hanging", "hangs_on", (TWO, ()), [1]),
    ("hanging", "step_hangs_on", (TWO, (), 0), [0, 1]),
    ("hanging", "hanging_pair", (TWO, (), 1), ((0, 0), (0, 1))),
    ("blame", "changing_sets", (TWO, (0, 0), (1, 1)), [(1,)]),
    ("blame", "restoring_sets", (TWO, (0, 0), (1, 0)), [()]),
    ("again", "made_again", (TWO, (0, 0), (0, 1)), [0, 1]),
    ("again", "count_runs", (TWO, [(0, 0), (0, 1), (0, 0)]), 4),
    ("again", "least_runs", (TWO, [(0, 0), (0, 1), (0, 0)]), (4, (0, 2, 1))),
    ("alike", "are_alike", (TWO, TWO), True),
    ("alike", "parting_world", (TWO, TWO), None),
    ("trimming", "constant_steps", (TWO,), []),
    ("trimming", "unused_steps", (TWO,), []),
    ("trimming", "models", (TWO,), [0, 1]),
    ("trimming", "trimmed", (TWO,), TRIMMED_TWO),
    ("orders", "is_order", (TWO, (1, 0)), False),
    ("orders", "count_orders", (TWO,), 1),
    ("orders", "least_rounds", (TWO, 2), 2),
    ("texts", "format_recipe", (TWO,), 'a|b, -|x; join t0 t1, less s0 t0; 1'),
    ("texts", "parse_recipe", ('a; sort t0; 0',), ((('a',),), (('sort', (('thing', 0),)),), (0,))),
    ("naive", "naive_is_same", (TWO, (HIDE,)), True),
    ("naive", "naive_least_price", (TWO, OFF, None), 2),
    ("naive", "naive_count_orders", (TWO,), 1),
]

# The errors that the interface lists, in their sequence, each with the places of the arguments that are checked by it.
REFUSES = {
    "is_recipe": [],
    "worlds": [("InvalidRecipe", [0])],
    "are_acts": [("InvalidRecipe", [0])],
    "texts_in": [("InvalidRecipe", [0]), ("InvalidActs", [1]), ("InvalidWorld", [2])],
    "outcome": [("InvalidRecipe", [0]), ("InvalidActs", [1]), ("InvalidWorld", [2])],
    "worlds_left": [("InvalidRecipe", [0]), ("InvalidActs", [1])],
    "is_same": [("InvalidRecipe", [0]), ("InvalidActs", [1])],
    "first_parting": [("InvalidRecipe", [0]), ("InvalidActs", [1])],
    "classes": [("InvalidRecipe", [0]), ("InvalidActs", [1])],
    "are_offers": [("InvalidRecipe", [0])],
    "price_of": [("InvalidRecipe", [0]), ("InvalidOffers", [1]), ("InvalidActs", [2])],
    "is_cure": [("InvalidRecipe", [0]), ("InvalidOffers", [1]), ("InvalidWish", [2]), ("InvalidActs", [3])],
    "touches": [("InvalidRecipe", [0]), ("InvalidAct", [1]), ("InvalidWorld", [2])],
    "least_price": [("InvalidRecipe", [0]), ("InvalidOffers", [1]), ("InvalidWish", [2])],
    "all_cheapest": [("InvalidRecipe", [0]), ("InvalidOffers", [1]), ("InvalidWish", [2])],
    "sure_acts": [("InvalidRecipe", [0]), ("InvalidOffers", [1]), ("InvalidWish", [2])],
    "paper": [("InvalidRecipe", [0]), ("InvalidOffers", [1]), ("InvalidWish", [2]), ("InvalidNumber", [3])],
    "is_paper": [("InvalidRecipe", [0]), ("InvalidOffers", [1]), ("InvalidWish", [2]), ("InvalidNumber", [3])],
    "fewest_classes": [("InvalidRecipe", [0]), ("InvalidOffers", [1]), ("InvalidNumber", [2])],
    "trades": [("InvalidRecipe", [0]), ("InvalidOffers", [1])],
    "hangs_on": [("InvalidRecipe", [0]), ("InvalidActs", [1])],
    "step_hangs_on": [("InvalidRecipe", [0]), ("InvalidActs", [1]), ("InvalidStep", [2])],
    "hanging_pair": [("InvalidRecipe", [0]), ("InvalidActs", [1]), ("InvalidNumber", [2])],
    "changing_sets": [("InvalidRecipe", [0]), ("InvalidWorld", [1, 2])],
    "restoring_sets": [("InvalidRecipe", [0]), ("InvalidWorld", [1, 2])],
    "made_again": [("InvalidRecipe", [0]), ("InvalidWorld", [1, 2])],
    "count_runs": [("InvalidRecipe", [0]), ("InvalidWorlds", [1])],
    "least_runs": [("InvalidRecipe", [0]), ("InvalidWorlds", [1])],
    "are_alike": [("InvalidRecipe", [0, 1])],
    "parting_world": [("InvalidRecipe", [0, 1])],
    "constant_steps": [("InvalidRecipe", [0])],
    "unused_steps": [("InvalidRecipe", [0])],
    "models": [("InvalidRecipe", [0])],
    "trimmed": [("InvalidRecipe", [0])],
    "is_order": [("InvalidRecipe", [0])],
    "count_orders": [("InvalidRecipe", [0])],
    "least_rounds": [("InvalidRecipe", [0]), ("InvalidNumber", [1])],
    "format_recipe": [("InvalidRecipe", [0])],
    "parse_recipe": [("ParseError", [0])],
    "naive_is_same": [("InvalidRecipe", [0]), ("InvalidActs", [1])],
    "naive_least_price": [("InvalidRecipe", [0]), ("InvalidOffers", [1]), ("InvalidWish", [2])],
    "naive_count_orders": [("InvalidRecipe", [0])],
}

# None of these is right where an argument is checked.
WRONG = [False, True, -1, 100, "odd one", b"a", [], {}, set(), [[0]], (None,), ("pin", 0, 9), Strange(),
         nested(30, tuple), nested(30, list), object(), len]


def function(file, name):
    """Return a function of the interface."""
    return getattr(importlib.import_module("samebuilds." + file), name)


def lists_in(value):
    """Return all lists in nested lists and tuples, the value itself included."""
    found = [value] if isinstance(value, list) else []
    if isinstance(value, (list, tuple)):
        for item in value:
            found.extend(lists_in(item))
    return found


class Whole(unittest.TestCase):
    def test_the_tables_name_all_functions_of_the_interface(self):
        listed = [(file, name) for file, names in DEFINED.items() for name in names]
        self.assertEqual(len(listed), 42)
        self.assertEqual(sorted(listed), sorted((file, name) for file, name, _, _ in EXAMPLES))
        self.assertEqual(sorted(name for _, name in listed), sorted(REFUSES))

    def test_the_examples(self):
        for file, name, values, expected in EXAMPLES:
            found = function(file, name)(*values)
            self.assertEqual(repr(found), repr(expected), name)

    def test_the_functions_stand_in_the_files_that_list_them(self):
        for file, name, _, _ in EXAMPLES:
            self.assertEqual(function(file, name).__module__, "samebuilds." + file)
        self.assertEqual(Desk.__module__, "samebuilds.desk")
        for name in DESK:
            self.assertIn(name, vars(Desk))

    def test_no_call_modifies_its_arguments(self):
        for file, name, values, _ in EXAMPLES:
            before = copy.deepcopy(values)
            function(file, name)(*values)
            self.assertEqual(values, before, name)

    def test_every_returned_list_is_a_new_one(self):
        more = [("papers", "paper", (TWO, OFF, None, 2), None), ("papers", "paper", (TWO, OFF, ("x",), 9), None),
                ("cheapest", "all_cheapest", (TWO, OFF, None), None)]
        for file, name, values, _ in EXAMPLES + more:
            call = function(file, name)
            first, second = call(*values), call(*values)
            given = [id(one) for one in lists_in(values)]
            for one in lists_in(first):
                self.assertNotIn(id(one), given, name)
                self.assertFalse([other for other in lists_in(second) if other is one], name)
            expected = repr(second)
            for one in lists_in(first):
                one.append(None)
            self.assertEqual(repr(call(*values)), expected, name)

    def test_the_first_of_several_errors(self):
        for file, name, values, _ in EXAMPLES:
            call = function(file, name)
            checked = [(place, error) for error, places in REFUSES[name] for place in places]
            # All sets of arguments that are checked, with the same wrong value or with unlike ones.
            for wrong in range(1, 2 ** len(checked)):
                spoiled_ones = [checked[at] for at in range(len(checked)) if wrong >> at & 1]
                first = spoiled_ones[0][1]
                for shift, bad in itertools.product((0, 5), range(len(WRONG))):
                    arguments = list(values)
                    for number, (place, _) in enumerate(spoiled_ones):
                        arguments[place] = WRONG[(bad + shift * number) % len(WRONG)]
                    refused(self, getattr(errors, first), call, *arguments)

    def test_errors_change_no_argument(self):
        for file, name, values, _ in EXAMPLES:
            for error, places in REFUSES[name]:
                for place, wrong in itertools.product(places, ([[0], [1]], {"a": [1]}, [(0, 5)])):
                    arguments = list(values)
                    arguments[place] = wrong
                    before = copy.deepcopy(arguments)
                    refused(self, getattr(errors, error), function(file, name), *arguments)
                    self.assertEqual(arguments, before)

    def test_errors_behind_those_of_the_kinds_of_arguments(self):
        pinned = (("pin", 0, 1),)
        for name in ("texts_in", "outcome"):
            call = function("making", name)
            refused(self, errors.NotLeft, call, TWO, pinned, (0, 0))
            refused(self, errors.InvalidWorld, call, TWO, pinned, (0, 2))
            refused(self, errors.InvalidActs, call, TWO, pinned + pinned, (0, 2))
        unlike = (TWO[0], TWO[1], (0, 1))
        for name in ("are_alike", "parting_world"):
            call = function("alike", name)
            refused(self, errors.Unlike, call, TWO, unlike)
            refused(self, errors.InvalidRecipe, call, unlike, TWO[:2])
        seven = (TWO[0], TWO[1][:1] * 7, (0,))
        refused(self, errors.InvalidNumber, function("naive", "naive_count_orders"), seven)
        refused(self, errors.InvalidRecipe, function("naive", "naive_count_orders"), seven[:2])

    def test_values_that_are_only_asked_for(self):
        for file, name, values in (("recipes", "is_recipe", ()), ("recipes", "are_acts", (TWO,)),
                                   ("offers", "are_offers", (TWO,)), ("papers", "is_paper", (TWO, OFF, None, 2)),
                                   ("orders", "is_order", (TWO,))):
            for wrong in WRONG + [None, 0]:
                self.assertIs(function(file, name)(*values, wrong), False, name)

    def test_the_desk_refuses_in_its_sequence(self):
        for wrong in WRONG:
            refused(self, errors.InvalidRecipe, Desk, wrong, OFF)
            refused(self, errors.InvalidRecipe, Desk, wrong, wrong)
            refused(self, errors.InvalidOffers, Desk, TWO, wrong)
            refused(self, errors.NotOffered, Desk(TWO, OFF).buy, wrong)
            refused(self, errors.NotOffered, Desk(TWO, OFF).give_back, wrong)
        refused(self, errors.Bought, Desk(TWO, OFF).give_back, HIDE)
        refused(self, errors.NothingToUndo, Desk(TWO, OFF).undo)


if __name__ == "__main__":
    unittest.main()
