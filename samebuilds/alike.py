"""Alike recipes: whether two recipes with the same things have equal outcomes in all worlds."""

from samebuilds.errors import Unlike
from samebuilds.making import outcome_left
from samebuilds.recipes import all_worlds, check_recipe


def first_parting_world(one, other):
    """Return the first world in which two recipes with the same things have unlike outcomes, or None."""
    for world in all_worlds(one):
        if outcome_left(one, (), world) != outcome_left(other, (), world):
            return world
    return None


def check_both(one, other):
    """Raise an error if these are not two recipes with the same things and as many steps in made."""
    check_recipe(one)
    check_recipe(other)
    if one[0] != other[0] or len(one[2]) != len(other[2]):
        raise Unlike("the recipes have not the same things, or not as many steps in made")


def are_alike(one, other):
    """Return whether two recipes are alike."""
    check_both(one, other)
    return first_parting_world(one, other) is None


def parting_world(one, other):
    """Return the first world in which the outcomes of two recipes are unlike, or None."""
    check_both(one, other)
    return first_parting_world(one, other)
