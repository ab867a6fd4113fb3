"""The errors of the package."""


class BuildError(ValueError):
    """The base class of all errors of the package."""


class InvalidRecipe(BuildError):
    """A value is not a recipe."""


class InvalidActs(BuildError):
    """A value is not acts of the recipe."""


class InvalidAct(BuildError):
    """A value is not an act of the recipe."""


class InvalidWorld(BuildError):
    """A value is not a world of the recipe."""


class InvalidWorlds(BuildError):
    """A value is not a list of worlds of the recipe."""


class InvalidStep(BuildError):
    """A value is not the number of a step."""


class InvalidOffers(BuildError):
    """A value is not offers of the recipe."""


class InvalidWish(BuildError):
    """A value is not a wish for the recipe."""


class InvalidNumber(BuildError):
    """A value is not an integer within its bounds."""


class NotLeft(BuildError):
    """A world is not left by the acts."""


class Unlike(BuildError):
    """Two recipes cannot be compared with each other."""


class NotOffered(BuildError):
    """An act is not among the offers."""


class Bought(BuildError):
    """An act is bought already, or is not bought."""


class NothingToUndo(BuildError):
    """No step is there that can be undone."""


class ParseError(BuildError):
    """A text is not the text of a recipe."""
