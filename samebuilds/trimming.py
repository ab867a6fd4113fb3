"""Trimming: which steps are constant, which are unused, which have the same texts, and a recipe without the rest."""

from samebuilds.making import all_texts
from samebuilds.recipes import all_worlds, check_recipe


def texts_by_step(recipe):
    """Return the list of the lists of the texts that the steps have in all worlds."""
    in_worlds = [all_texts(recipe, (), world) for world in all_worlds(recipe)]
    return [[texts[step] for texts in in_worlds] for step in range(len(recipe[1]))]


def constant_steps(recipe):
    """Return the ascending list of the constant steps."""
    check_recipe(recipe)
    return [step for step, texts in enumerate(texts_by_step(recipe)) if texts.count(texts[0]) == len(texts)]


def used_steps(recipe):
    """Return the ascending list of the steps that are made, or on which one of these leans."""
    used = {step: True for step in recipe[2]}
    # A step is read by later ones only, so it is known by then whether these are used.
    for step in reversed(range(len(recipe[1]))):
        if step in used:
            for word, number in recipe[1][step][1]:
                if word == "step":
                    used[number] = True
    return sorted(used)


def unused_steps(recipe):
    """Return the ascending list of the unused steps."""
    check_recipe(recipe)
    used = used_steps(recipe)
    return [step for step in range(len(recipe[1])) if step not in used]


def first_with_same_texts(recipe):
    """Return the list of the models of all steps of what is surely a recipe."""
    texts = texts_by_step(recipe)
    return [texts.index(one) for one in texts]


def models(recipe):
    """Return the list of the models of all steps."""
    check_recipe(recipe)
    return first_with_same_texts(recipe)


def renumbered(step, numbers):
    """Return a step with, in place of each number of a step that it reads, the one that numbers have for it."""
    operation, reads = step
    found = []
    for word, number in reads:
        found.append((word, numbers[number] if word == "step" else number))
    return (operation, tuple(found))


def reading_models(recipe):
    """Return a recipe with, in place of each reading of a step, that of its model."""
    things, steps, made = recipe
    first = first_with_same_texts(recipe)
    return (things, tuple([renumbered(step, first) for step in steps]), made)


def without_unused(recipe):
    """Return a recipe without its unused steps, the others numbered anew."""
    things, steps, made = recipe
    used = used_steps(recipe)
    numbers = {step: at for at, step in enumerate(used)}
    kept = [renumbered(steps[step], numbers) for step in used]
    return (things, tuple(kept), tuple([numbers[step] for step in made]))


def trimmed(recipe):
    """Return the trimmed recipe."""
    check_recipe(recipe)
    return without_unused(reading_models(recipe))
