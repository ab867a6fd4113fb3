"""Recipes, their worlds and their acts: what counts as one, and which worlds there are."""

from samebuilds.errors import InvalidAct, InvalidActs, InvalidNumber, InvalidRecipe, InvalidWorld

MOST_THINGS = 5
MOST_TEXTS = 4
LONGEST_TEXT = 4
MOST_WORLDS = 256
MOST_STEPS = 8
MOST_MADE = 3
MOST_ACTS = 12

READINGS = {"join": 2, "sort": 1, "turn": 1, "first": 1, "rest": 1, "less": 2, "same": 2, "pick": 3}


def is_number(value, least, most):
    """Return whether value is an integer from least to most."""
    # True and False are integers to Python, but not to the document.
    return isinstance(value, int) and not isinstance(value, bool) and least <= value <= most


def check_number(value, least, most):
    """Raise InvalidNumber if value is not an integer from least to most."""
    if not is_number(value, least, most):
        raise InvalidNumber("this is not an integer within its bounds")


def is_tuple(value, least, most):
    """Return whether value is a tuple of least to most items."""
    return isinstance(value, tuple) and least <= len(value) <= most


def is_text(value, longest):
    """Return whether value is a text of letters from a to z, not longer than longest."""
    if not isinstance(value, str) or len(value) > longest:
        return False
    for letter in value:
        if letter < "a" or letter > "z":
            return False
    return True


def is_ascending(values):
    """Return whether values, which can be compared, ascend without repetitions."""
    for at in range(1, len(values)):
        if values[at - 1] >= values[at]:
            return False
    return True


def is_thing(value):
    """Return whether value can be a thing of a recipe."""
    if not is_tuple(value, 1, MOST_TEXTS):
        return False
    for text in value:
        if not is_text(text, LONGEST_TEXT):
            return False
    return is_ascending(value)


def are_things(value):
    """Return whether value can be the things of a recipe."""
    if not is_tuple(value, 1, MOST_THINGS):
        return False
    many = 1
    for thing in value:
        if not is_thing(thing):
            return False
        many = many * len(thing)
    return many <= MOST_WORLDS


def is_reading(value, many_things, step):
    """Return whether value can be a reading of the step with this number."""
    if not is_tuple(value, 2, 2):
        return False
    word, number = value
    # Words are asked for their kind first: other objects may refuse to be compared or looked up.
    if not isinstance(word, str):
        return False
    if word == "thing":
        return is_number(number, 0, many_things - 1)
    return word == "step" and is_number(number, 0, step - 1)


def is_step(value, many_things, step):
    """Return whether value can be the step with this number."""
    if not is_tuple(value, 2, 2):
        return False
    operation, reads = value
    if not isinstance(operation, str) or operation not in READINGS:
        return False
    if not is_tuple(reads, READINGS[operation], READINGS[operation]):
        return False
    for reading in reads:
        if not is_reading(reading, many_things, step):
            return False
    return True


def are_steps(value, many_things):
    """Return whether value can be the steps of a recipe with so many things."""
    if not is_tuple(value, 1, MOST_STEPS):
        return False
    for at in range(len(value)):
        if not is_step(value[at], many_things, at):
            return False
    return True


def is_made(value, many_steps):
    """Return whether value can be what a recipe with so many steps makes."""
    if not is_tuple(value, 1, MOST_MADE):
        return False
    for number in value:
        if not is_number(number, 0, many_steps - 1):
            return False
    return is_ascending(value)


def is_recipe(value):
    """Return whether value is a recipe."""
    if not is_tuple(value, 3, 3):
        return False
    things, steps, made = value
    return are_things(things) and are_steps(steps, len(things)) and is_made(made, len(steps))


def check_recipe(value):
    """Raise InvalidRecipe if value is not a recipe."""
    if not is_recipe(value):
        raise InvalidRecipe("this is not a recipe")


def all_worlds(recipe):
    """Return the ascending list of all worlds of what is surely a recipe."""
    found = [()]
    for thing in recipe[0]:
        found = [world + (text,) for world in found for text in range(len(thing))]
    return found


def worlds(recipe):
    """Return the ascending list of all worlds of a recipe."""
    check_recipe(recipe)
    return all_worlds(recipe)


def is_world(recipe, value):
    """Return whether value is a world of a recipe."""
    things = recipe[0]
    if not is_tuple(value, len(things), len(things)):
        return False
    for at in range(len(things)):
        if not is_number(value[at], 0, len(things[at]) - 1):
            return False
    return True


def check_world(recipe, value):
    """Raise InvalidWorld if value is not a world of a recipe."""
    if not is_world(recipe, value):
        raise InvalidWorld("this is not a world of the recipe")


def is_pin(recipe, thing, text):
    """Return whether a thing with this number can be pinned at a text with this number."""
    things = recipe[0]
    return is_number(thing, 0, len(things) - 1) and is_number(text, 0, len(things[thing]) - 1)


def is_hiding(recipe, step, thing):
    """Return whether a thing with this number can be hidden from a step with this number."""
    things = recipe[0]
    steps = recipe[1]
    if not is_number(step, 0, len(steps) - 1) or not is_number(thing, 0, len(things) - 1):
        return False
    return ("thing", thing) in steps[step][1]


def is_act(recipe, value):
    """Return whether value is an act of a recipe."""
    if not is_tuple(value, 3, 3):
        return False
    word, number, other = value
    if not isinstance(word, str):
        return False
    if word == "pin":
        return is_pin(recipe, number, other)
    return word == "hide" and is_hiding(recipe, number, other)


def check_act(recipe, value):
    """Raise InvalidAct if value is not an act of a recipe."""
    if not is_act(recipe, value):
        raise InvalidAct("this is not an act of the recipe")


def are_acts_of(recipe, value):
    """Return whether value are acts of what is surely a recipe."""
    if not is_tuple(value, 0, MOST_ACTS):
        return False
    for act in value:
        if not is_act(recipe, act):
            return False
    return is_ascending(value)


def are_acts(recipe, value):
    """Return whether value are acts of a recipe."""
    check_recipe(recipe)
    return are_acts_of(recipe, value)


def check_acts(recipe, value):
    """Raise InvalidActs if value are not acts of a recipe."""
    if not are_acts_of(recipe, value):
        raise InvalidActs("these are not acts of the recipe")
