"""Papers: for bought acts after bought acts the reason why no cure that contains them has a lesser price."""

from samebuilds.making import is_left, outcome_left
from samebuilds.offers import (
    acts_offered, are_bought, check_problem, sum_of_prices, touches_world, world_that_falls_short,
)
from samebuilds.recipes import check_number, is_ascending, is_tuple, is_world
from samebuilds.sameness import all_left, pair_that_parts

MOST_ASKED = 99


def unlike_worlds(recipe, wish, bought):
    """Return the worlds that tell that bought acts are no cure, in a tuple, or None if no worlds do."""
    if wish is None:
        return pair_that_parts(recipe, bought)
    world = world_that_falls_short(recipe, wish, bought)
    return None if world is None else (world,)


def reason_against(recipe, offers, wish, price, bought):
    """Return a reason for bought acts in a paper for a price, or None if they are a cure with a lesser price."""
    if sum_of_prices(offers, bought) >= price:
        return ("dear",)
    if all_left(recipe, bought) == []:
        return ("none",)
    some = unlike_worlds(recipe, wish, bought)
    return None if some is None else ("unlike", some)


def touches_one_of(recipe, act, some):
    """Return whether an act touches one of some worlds."""
    for world in some:
        if touches_world(recipe, act, world):
            return True
    return False


def needed_behind(recipe, offers, bought, reason):
    """Return the list of the bought acts that a paper needs because it has this reason for bought acts."""
    if reason[0] != "unlike":
        return []
    found = []
    for act in acts_offered(offers):
        if act not in bought and touches_one_of(recipe, act, reason[1]):
            found.append(tuple(sorted(bought + (act,))))
    return found


def paper(recipe, offers, wish, price):
    """Return a paper for a price, or None if there is none."""
    check_problem(recipe, offers, wish)
    check_number(price, 0, MOST_ASKED)
    reasons = {}
    waiting = [()]
    while waiting != []:
        bought = waiting.pop()
        if bought not in reasons:
            reason = reason_against(recipe, offers, wish, price, bought)
            # Such acts are reached only if a cure has a lesser price, and then there is no paper.
            if reason is None:
                return None
            reasons[bought] = reason
            waiting.extend(needed_behind(recipe, offers, bought, reason))
    return sorted(reasons.items())


def are_worlds_left(recipe, bought, value):
    """Return whether value is a tuple of one or two worlds left by bought acts."""
    if not is_tuple(value, 1, 2):
        return False
    for world in value:
        if not is_world(recipe, world) or not is_left(bought, world):
            return False
    return True


def are_unlike(recipe, wish, bought, value):
    """Return whether value are worlds that tell that bought acts are no cure."""
    if not are_worlds_left(recipe, bought, value):
        return False
    made = [outcome_left(recipe, bought, world) for world in value]
    if len(made) == 1:
        return wish is not None and made[0] != wish
    return made[0] != made[1]


def is_reason(recipe, offers, wish, price, bought, value):
    """Return whether value is a right reason for bought acts in a paper for a price."""
    if not is_tuple(value, 1, 2) or not isinstance(value[0], str):
        return False
    word = value[0]
    if word == "unlike":
        return len(value) == 2 and are_unlike(recipe, wish, bought, value[1])
    if len(value) != 1:
        return False
    if word == "dear":
        return sum_of_prices(offers, bought) >= price
    return word == "none" and all_left(recipe, bought) == []


def is_entry(recipe, offers, wish, price, value):
    """Return whether value is a tuple of bought acts and a right reason for them."""
    if not is_tuple(value, 2, 2):
        return False
    bought, reason = value
    return are_bought(recipe, offers, bought) and is_reason(recipe, offers, wish, price, bought, reason)


def are_entries(recipe, offers, wish, price, value):
    """Return whether value is an ascending list of right entries, each with other bought acts."""
    if not isinstance(value, list):
        return False
    for entry in value:
        if not is_entry(recipe, offers, wish, price, entry):
            return False
    # With different bought acts, entries ascend if and only if these do.
    return is_ascending([bought for bought, _ in value])


def has_all_needed(recipe, offers, entries):
    """Return whether no entry is missing that a paper needs, if all that are there are right."""
    there = {bought: True for bought, _ in entries}
    if () not in there:
        return False
    for bought, reason in entries:
        for needed in needed_behind(recipe, offers, bought, reason):
            if needed not in there:
                return False
    return True


def is_paper(recipe, offers, wish, price, value):
    """Return whether value is a paper for a price."""
    check_problem(recipe, offers, wish)
    check_number(price, 0, MOST_ASKED)
    return are_entries(recipe, offers, wish, price, value) and has_all_needed(recipe, offers, value)
