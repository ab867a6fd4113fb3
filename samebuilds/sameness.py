"""Sameness: which worlds are left by acts, and whether the outcome is the same in all of them."""

from samebuilds.making import is_left, outcome_left
from samebuilds.recipes import all_worlds, check_acts, check_recipe


def all_left(recipe, acts):
    """Return the ascending list of the worlds left by what are surely acts of a recipe."""
    return [world for world in all_worlds(recipe) if is_left(acts, world)]


def pair_that_parts(recipe, acts):
    """Return the first pair of worlds that part under what are surely acts of a recipe, or None."""
    left = all_left(recipe, acts)
    if left == []:
        return None
    first = left[0]
    made = outcome_left(recipe, acts, first)
    # If any two worlds part, one of them parts from the first world left: other first worlds need not be tried.
    for world in left:
        if outcome_left(recipe, acts, world) != made:
            return (first, world)
    return None


def outcomes_left(recipe, acts):
    """Return a dict of the outcomes in all worlds left, by the worlds, which are ascending."""
    return {world: outcome_left(recipe, acts, world) for world in all_left(recipe, acts)}


def is_same_under(recipe, acts):
    """Return whether a recipe is same under what are surely acts of it."""
    return all_left(recipe, acts) != [] and pair_that_parts(recipe, acts) is None


def check_recipe_and_acts(recipe, acts):
    """Raise an error if these are not a recipe and acts of it."""
    check_recipe(recipe)
    check_acts(recipe, acts)


def worlds_left(recipe, acts):
    """Return the ascending list of the worlds left by acts."""
    check_recipe_and_acts(recipe, acts)
    return all_left(recipe, acts)


def is_same(recipe, acts):
    """Return whether a recipe is same under acts."""
    check_recipe_and_acts(recipe, acts)
    return is_same_under(recipe, acts)


def first_parting(recipe, acts):
    """Return the first pair of worlds that part under acts, or None."""
    check_recipe_and_acts(recipe, acts)
    return pair_that_parts(recipe, acts)


def classes(recipe, acts):
    """Return the ascending list of the tuples of an outcome and its class of worlds."""
    check_recipe_and_acts(recipe, acts)
    outcomes = outcomes_left(recipe, acts)
    found = {}
    for world, made in outcomes.items():
        found.setdefault(made, []).append(world)
    return sorted(found.items())
