"""Hanging: on which things the outcome, or the text of a step, hangs under acts."""

from samebuilds.errors import InvalidStep
from samebuilds.making import all_texts
from samebuilds.recipes import check_number, is_number
from samebuilds.sameness import all_left, check_recipe_and_acts, outcomes_left


def first_pair(recipe, results, thing):
    """Return the first two worlds, unlike in this thing alone, with unlike results, or None.

    Results are a dict with the worlds left, ascending, as its keys.
    """
    for world, result in results.items():
        for text in range(world[thing] + 1, len(recipe[0][thing])):
            other = world[:thing] + (text,) + world[thing + 1:]
            if other in results and results[other] != result:
                return (world, other)
    return None


def things_that_matter(recipe, results):
    """Return the ascending list of the things such that results of worlds, unlike in one alone, are unlike."""
    return [thing for thing in range(len(recipe[0])) if first_pair(recipe, results, thing) is not None]


def hangs_on(recipe, acts):
    """Return the ascending list of the things on which the outcome hangs."""
    check_recipe_and_acts(recipe, acts)
    return things_that_matter(recipe, outcomes_left(recipe, acts))


def step_hangs_on(recipe, acts, step):
    """Return the ascending list of the things on which a step hangs."""
    check_recipe_and_acts(recipe, acts)
    if not is_number(step, 0, len(recipe[1]) - 1):
        raise InvalidStep("this is not the number of a step")
    texts = {world: all_texts(recipe, acts, world)[step] for world in all_left(recipe, acts)}
    return things_that_matter(recipe, texts)


def hanging_pair(recipe, acts, thing):
    """Return the first pair of worlds, unlike in this thing alone, that part, or None."""
    check_recipe_and_acts(recipe, acts)
    check_number(thing, 0, len(recipe[0]) - 1)
    return first_pair(recipe, outcomes_left(recipe, acts), thing)
