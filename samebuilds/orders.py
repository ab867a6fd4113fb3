"""Orders: in how many sequences, and in how few rounds, the steps of a recipe can be made."""

from samebuilds.recipes import check_number, check_recipe, is_number, is_tuple

MOST_HANDS = 8


def steps_read(recipe):
    """Return the list of the lists of the steps that the steps of a recipe read."""
    found = []
    for _, reads in recipe[1]:
        found.append([number for word, number in reads if word == "step"])
    return found


def is_order_of(recipe, value):
    """Return whether a tuple with as many numbers of steps as a recipe has is an order of it."""
    read = steps_read(recipe)
    made = {}
    for step in value:
        if step in made:
            return False
        for number in read[step]:
            if number not in made:
                return False
        made[step] = True
    return True


def is_order(recipe, value):
    """Return whether value is an order of a recipe."""
    check_recipe(recipe)
    many = len(recipe[1])
    if not is_tuple(value, many, many):
        return False
    for step in value:
        if not is_number(step, 0, many - 1):
            return False
    return is_order_of(recipe, value)


def free_steps(read, done):
    """Return the list of the steps that are not done, and read only steps that are."""
    found = []
    for step, numbers in enumerate(read):
        if step not in done and [number for number in numbers if number not in done] == []:
            found.append(step)
    return found


def count_orders(recipe):
    """Return the number of orders of a recipe."""
    check_recipe(recipe)
    read = steps_read(recipe)
    # Orders that begin with the same steps go on in the same ways, so they are only counted.
    counts = {(): 1}
    for _ in recipe[1]:
        longer = {}
        for done, many in counts.items():
            for step in free_steps(read, done):
                behind = tuple(sorted(done + (step,)))
                longer[behind] = longer.get(behind, 0) + many
        counts = longer
    return sum(list(counts.values()))


def all_choices(steps, most):
    """Return the list of all tuples of one to so many of some steps."""
    found = [()]
    for step in steps:
        found = found + [chosen + (step,) for chosen in found if len(chosen) < most]
    return found[1:]


def one_round_later(read, reached, hands):
    """Return a dict of all that can be done by one more round, from a dict of all that can be done so far."""
    later = {}
    for done in reached:
        for chosen in all_choices(free_steps(read, done), hands):
            later[tuple(sorted(done + chosen))] = True
    return later


def least_rounds(recipe, hands):
    """Return the least number of rounds in which so many hands make all steps."""
    check_recipe(recipe)
    check_number(hands, 1, MOST_HANDS)
    read = steps_read(recipe)
    everything = tuple(range(len(read)))
    reached = {(): True}
    rounds = 0
    while everything not in reached:
        reached = one_round_later(read, reached, hands)
        rounds += 1
    return rounds
