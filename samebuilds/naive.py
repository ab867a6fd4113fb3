"""The same as is_same, least_price and count_orders, in slower ways that are easier to follow."""

from samebuilds.making import outcome_left
from samebuilds.offers import all_bought, check_problem
from samebuilds.orders import is_order_of
from samebuilds.recipes import check_number, check_recipe
from samebuilds.sameness import all_left, check_recipe_and_acts

MOST_STEPS_TRIED = 6


def are_all_equal(some, others):
    """Return whether each of some values is equal to each of others."""
    for one in some:
        for other in others:
            if one != other:
                return False
    return True


def all_outcomes(recipe, acts):
    """Return the list of the outcomes in all worlds left by what are surely acts of a recipe."""
    return [outcome_left(recipe, acts, world) for world in all_left(recipe, acts)]


def naive_is_same(recipe, acts):
    """Return whether a recipe is same under acts, by comparing all pairs of worlds."""
    check_recipe_and_acts(recipe, acts)
    made = all_outcomes(recipe, acts)
    return made != [] and are_all_equal(made, made)


def is_naive_cure(recipe, wish, acts):
    """Return whether what are surely bought acts are a cure, by comparing all outcomes."""
    made = all_outcomes(recipe, acts)
    return made != [] and are_all_equal(made, made if wish is None else [wish])


def naive_least_price(recipe, offers, wish):
    """Return the least price of a cure, or None if there is none, by trying all bought acts."""
    check_problem(recipe, offers, wish)
    prices = [price for price, acts in all_bought(offers) if is_naive_cure(recipe, wish, acts)]
    return min(prices, default=None)


def all_tuples_of_steps(many):
    """Return the list of all tuples of so many of the first so many numbers, repetitions included."""
    found = [()]
    for _ in range(many):
        found = [steps + (step,) for steps in found for step in range(many)]
    return found


def naive_count_orders(recipe):
    """Return the number of orders of a recipe with at most 6 steps, by going through all tuples of steps."""
    check_recipe(recipe)
    check_number(len(recipe[1]), 1, MOST_STEPS_TRIED)
    return len([steps for steps in all_tuples_of_steps(len(recipe[1])) if is_order_of(recipe, steps)])
