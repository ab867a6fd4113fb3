"""Budgets: into how few classes the worlds left fall under bought acts, and at which prices."""

from samebuilds.offers import all_bought, check_offers
from samebuilds.recipes import check_number, check_recipe
from samebuilds.sameness import outcomes_left

MOST_BUDGET = 99


def count_classes(recipe, acts):
    """Return the number of classes under what are surely acts of a recipe, 0 if no world is left."""
    outcomes = outcomes_left(recipe, acts)
    return len(set(list(outcomes.values())))


def all_pairs(recipe, offers, budget):
    """Return the list of the pairs of price and classes of all bought acts within a budget that leave a world."""
    found = []
    for price, acts in all_bought(offers):
        many = count_classes(recipe, acts) if price <= budget else 0
        if many > 0:
            found.append((price, many))
    return found


def fewest_classes(recipe, offers, budget):
    """Return the least number of classes under bought acts that leave a world and have at most this price."""
    check_recipe(recipe)
    check_offers(recipe, offers)
    check_number(budget, 0, MOST_BUDGET)
    return min([many for _, many in all_pairs(recipe, offers, budget)])


def trades(recipe, offers):
    """Return the ascending list of the trades."""
    check_recipe(recipe)
    check_offers(recipe, offers)
    found = []
    # No pair ahead of one in ascending order has a greater price, so it is a trade if all of them have more classes.
    for price, many in sorted(all_pairs(recipe, offers, MOST_BUDGET)):
        if found == [] or many < found[-1][1]:
            found.append((price, many))
    return found
