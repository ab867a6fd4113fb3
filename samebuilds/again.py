"""Made again: which steps are made again from world to world, and how many runs kept results leave."""

from samebuilds.blame import check_worlds
from samebuilds.errors import InvalidWorlds
from samebuilds.making import all_texts, text_read
from samebuilds.recipes import check_recipe, is_world

MOST_LISTED = 5


def texts_read(recipe, world):
    """Return the list of the tuples of the texts that the steps read in a world."""
    texts = all_texts(recipe, (), world)
    found = []
    for step, (_, reads) in enumerate(recipe[1]):
        found.append(tuple([text_read(recipe, (), world, step, reading, texts) for reading in reads]))
    return found


def unlike_places(values, others):
    """Return the ascending list of the places at which two lists with as many items have unlike ones."""
    return [at for at in range(len(values)) if values[at] != others[at]]


def made_again(recipe, world, other):
    """Return the ascending list of the steps that are made again from a world to another one."""
    check_worlds(recipe, world, other)
    return unlike_places(texts_read(recipe, world), texts_read(recipe, other))


def are_some_worlds(recipe, value):
    """Return whether value is a list of 1 to 5 worlds of a recipe."""
    if not isinstance(value, list) or len(value) < 1 or len(value) > MOST_LISTED:
        return False
    for world in value:
        if not is_world(recipe, world):
            return False
    return True


def check_some_worlds(recipe, value):
    """Raise an error if these are not a recipe and a list of 1 to 5 worlds of it."""
    check_recipe(recipe)
    if not are_some_worlds(recipe, value):
        raise InvalidWorlds("this is not a list of 1 to 5 worlds of the recipe")


def count_runs(recipe, some):
    """Return the number of runs that worlds one after another need, with all results kept."""
    check_some_worlds(recipe, some)
    kept = {}
    for world in some:
        for step, read in enumerate(texts_read(recipe, world)):
            kept[(step, read)] = True
    return len(kept)


def all_sequences(many):
    """Return the ascending list of all tuples with each of so many numbers once."""
    found = [()]
    for _ in range(many):
        found = [sequence + (at,) for sequence in found for at in range(many) if at not in sequence]
    return found


def runs_in(sequence, read):
    """Return how many runs worlds need in a sequence, with the results of the last one kept.

    What is read is a list with, for each world, what its steps read.
    """
    runs = len(read[sequence[0]])
    for at in range(1, len(sequence)):
        runs += len(unlike_places(read[sequence[at - 1]], read[sequence[at]]))
    return runs


def least_runs(recipe, some):
    """Return the least number of runs with the results of the last world kept, and the first sequence with it."""
    check_some_worlds(recipe, some)
    read = [texts_read(recipe, world) for world in some]
    # Among pairs with the same number of runs, the least one has the first sequence.
    return min([(runs_in(sequence, read), sequence) for sequence in all_sequences(len(some))])
