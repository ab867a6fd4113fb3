"""Blame: which changes of things from a world to another one change the outcome, or restore it."""

from samebuilds.making import outcome_left
from samebuilds.recipes import check_recipe, check_world


def mixed(world, other, things):
    """Return the world with the texts that these things have in another one."""
    return tuple([other[at] if at in things else world[at] for at in range(len(world))])


def sets_of_unlike_things(world, other):
    """Return the list of all ascending tuples of things with unlike texts in two worlds."""
    found = [()]
    for at in range(len(world)):
        if world[at] != other[at]:
            found = found + [things + (at,) for things in found]
    return found


def contains(things, others):
    """Return whether all of others are among things."""
    for thing in others:
        if thing not in things:
            return False
    return True


def contains_another(things, sets):
    """Return whether things contain one of sets that is not these things themselves."""
    for others in sets:
        if others != things and contains(things, others):
            return True
    return False


def least_ones(sets):
    """Return the ascending list of those sets that contain no other one."""
    return sorted([things for things in sets if not contains_another(things, sets)])


def check_worlds(recipe, world, other):
    """Raise an error if these are not a recipe and two worlds of it."""
    check_recipe(recipe)
    check_world(recipe, world)
    check_world(recipe, other)


def changing_sets(recipe, world, other):
    """Return the ascending list of the least changing sets from a world to another one."""
    check_worlds(recipe, world, other)
    made = outcome_left(recipe, (), world)
    found = []
    for things in sets_of_unlike_things(world, other):
        if outcome_left(recipe, (), mixed(world, other, things)) != made:
            found.append(things)
    return least_ones(found)


def restoring_sets(recipe, world, other):
    """Return the ascending list of the least restoring sets from a world to another one."""
    check_worlds(recipe, world, other)
    made = outcome_left(recipe, (), world)
    found = []
    for things in sets_of_unlike_things(world, other):
        if outcome_left(recipe, (), mixed(other, world, things)) == made:
            found.append(things)
    return least_ones(found)
