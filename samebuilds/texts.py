"""Texts: a recipe written as one text, and read back from it."""

from samebuilds.errors import ParseError
from samebuilds.recipes import check_recipe, is_recipe

PARTS = "; "
ITEMS = ", "
CHOICES = "|"
WORDS = " "
EMPTY = "-"

SIGNS = {"thing": "t", "step": "s"}
KINDS = {"t": "thing", "s": "step"}
# No recipe has more than ten things or steps, so each of its numbers has one digit.
DIGITS = "0123456789"


def written_thing(thing):
    """Return the text of a thing."""
    return CHOICES.join([EMPTY if text == "" else text for text in thing])


def written_step(step):
    """Return the text of a step."""
    operation, reads = step
    return WORDS.join([operation] + [SIGNS[word] + str(number) for word, number in reads])


def written(recipe):
    """Return the text of what is surely a recipe."""
    things, steps, made = recipe
    return PARTS.join([
        ITEMS.join([written_thing(thing) for thing in things]),
        ITEMS.join([written_step(step) for step in steps]),
        ITEMS.join([str(number) for number in made]),
    ])


def format_recipe(recipe):
    """Return the text of a recipe."""
    check_recipe(recipe)
    return written(recipe)


def read_thing(text):
    """Return the tuple of the texts of a thing."""
    return tuple(["" if word == EMPTY else word for word in text.split(CHOICES)])


def read_number(text):
    """Return the number that is written as one digit."""
    if len(text) != 1 or text not in DIGITS:
        raise ParseError("this is not a number of a thing or of a step")
    return int(text)


def read_reading(text):
    """Return the reading that is written as a sign and a number."""
    if text[:1] not in KINDS:
        raise ParseError("this is not a reading")
    return (KINDS[text[:1]], read_number(text[1:]))


def read_step(text):
    """Return the step that is written as an operation and its readings."""
    words = text.split(WORDS)
    return (words[0], tuple([read_reading(word) for word in words[1:]]))


def parse_recipe(text):
    """Return the recipe with this text."""
    if not isinstance(text, str):
        raise ParseError("this is not a text")
    parts = text.split(PARTS)
    if len(parts) != 3:
        raise ParseError("this has not three parts")
    things = [read_thing(part) for part in parts[0].split(ITEMS)]
    steps = [read_step(part) for part in parts[1].split(ITEMS)]
    made = [read_number(part) for part in parts[2].split(ITEMS)]
    recipe = (tuple(things), tuple(steps), tuple(made))
    # What is read here may still be none, or be written otherwise: an empty text can also be read from nothing.
    if not is_recipe(recipe) or written(recipe) != text:
        raise ParseError("this is not the text of a recipe")
    return recipe
