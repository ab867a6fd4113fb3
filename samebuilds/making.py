"""Making: the texts of the steps and the outcome of a recipe, under acts, in one world."""

from samebuilds.errors import NotLeft
from samebuilds.recipes import check_acts, check_recipe, check_world


def letters_without(text, others):
    """Return the letters of a text that are not among others, in their order."""
    return "".join([letter for letter in text if letter not in others])


def made_by(operation, read):
    """Return the text that an operation makes of the texts that are read."""
    text = read[0]
    if operation == "join":
        return text + read[1]
    if operation == "sort":
        return "".join(sorted(text))
    if operation == "turn":
        return text[::-1]
    if operation == "first":
        return text[:1]
    if operation == "rest":
        return text[1:]
    if operation == "less":
        return letters_without(text, read[1])
    if operation == "same":
        return "y" if text == read[1] else ""
    return read[1] if text != "" else read[2]


def is_left(acts, world):
    """Return whether a world is left by acts."""
    for word, thing, text in acts:
        if word == "pin" and world[thing] != text:
            return False
    return True


def text_read(recipe, acts, world, step, reading, texts):
    """Return the text of a reading of a step, with the texts of the steps ahead of it."""
    word, number = reading
    if word == "step":
        return texts[number]
    if ("hide", step, number) in acts:
        return ""
    return recipe[0][number][world[number]]


def all_texts(recipe, acts, world):
    """Return the tuple of the texts of all steps in a world that is surely left by the acts."""
    texts = []
    for step, (operation, reads) in enumerate(recipe[1]):
        read = [text_read(recipe, acts, world, step, reading, texts) for reading in reads]
        texts.append(made_by(operation, read))
    return tuple(texts)


def outcome_left(recipe, acts, world):
    """Return the outcome in a world that is surely left by the acts."""
    texts = all_texts(recipe, acts, world)
    return tuple([texts[step] for step in recipe[2]])


def check_left(recipe, acts, world):
    """Raise an error if these are not a recipe, acts of it and a world that is left by them."""
    check_recipe(recipe)
    check_acts(recipe, acts)
    check_world(recipe, world)
    if not is_left(acts, world):
        raise NotLeft("the world is not left by the acts")


def texts_in(recipe, acts, world):
    """Return the tuple of the texts of all steps in a world."""
    check_left(recipe, acts, world)
    return all_texts(recipe, acts, world)


def outcome(recipe, acts, world):
    """Return the outcome in a world: the texts of the steps that are made."""
    check_left(recipe, acts, world)
    return outcome_left(recipe, acts, world)
