"""Offers: which acts can be bought at which prices, and which bought acts are a cure."""

from samebuilds.errors import InvalidActs, InvalidOffers, InvalidWish
from samebuilds.making import outcome_left
from samebuilds.recipes import (
    are_acts_of, check_act, check_recipe, check_world, is_act, is_ascending, is_number, is_text, is_tuple,
)
from samebuilds.sameness import all_left, is_same_under

MOST_OFFERS = 8
LEAST_PRICE = 1
MOST_PRICE = 9
LONGEST_WISHED = 2000


def is_offer(recipe, value):
    """Return whether value can be one of the offers of a recipe."""
    if not is_tuple(value, 2, 2):
        return False
    act, price = value
    return is_act(recipe, act) and is_number(price, LEAST_PRICE, MOST_PRICE)


def acts_offered(offers):
    """Return the list of the acts that are offered, ascending as the offers are."""
    return [act for act, _ in offers]


def are_offers_of(recipe, value):
    """Return whether value are offers of what is surely a recipe."""
    if not is_tuple(value, 0, MOST_OFFERS):
        return False
    for offer in value:
        if not is_offer(recipe, offer):
            return False
    # Offers with different acts ascend if and only if their acts do.
    return is_ascending(acts_offered(value))


def are_offers(recipe, value):
    """Return whether value are offers of a recipe."""
    check_recipe(recipe)
    return are_offers_of(recipe, value)


def check_offers(recipe, value):
    """Raise InvalidOffers if value are not offers of a recipe."""
    if not are_offers_of(recipe, value):
        raise InvalidOffers("these are not offers of the recipe")


def are_bought(recipe, offers, value):
    """Return whether value are bought acts of offers."""
    # Acts are asked for their kinds first: other objects may refuse to be compared with those that are offered.
    if not are_acts_of(recipe, value):
        return False
    offered = acts_offered(offers)
    for act in value:
        if act not in offered:
            return False
    return True


def check_bought(recipe, offers, value):
    """Raise InvalidActs if value are not bought acts of offers."""
    if not are_bought(recipe, offers, value):
        raise InvalidActs("these are not bought acts of the offers")


def sum_of_prices(offers, acts):
    """Return the price of what are surely bought acts of offers."""
    return sum([price for act, price in offers if act in acts])


def all_bought(offers):
    """Return the ascending list of the tuples of a price and bought acts, for all acts that can be bought."""
    found = [(0, ())]
    for act, price in offers:
        found = found + [(total + price, acts + (act,)) for total, acts in found]
    return sorted(found)


def price_of(recipe, offers, acts):
    """Return the price of bought acts."""
    check_recipe(recipe)
    check_offers(recipe, offers)
    check_bought(recipe, offers, acts)
    return sum_of_prices(offers, acts)


def is_wish(recipe, value):
    """Return whether value is a wish for the outcome of a recipe."""
    if value is None:
        return True
    made = recipe[2]
    if not is_tuple(value, len(made), len(made)):
        return False
    for text in value:
        if not is_text(text, LONGEST_WISHED):
            return False
    return True


def check_wish(recipe, value):
    """Raise InvalidWish if value is not a wish for the outcome of a recipe."""
    if not is_wish(recipe, value):
        raise InvalidWish("this is not a wish for the outcome of the recipe")


def check_problem(recipe, offers, wish):
    """Raise an error if these are not a recipe, offers of it and a wish for its outcome."""
    check_recipe(recipe)
    check_offers(recipe, offers)
    check_wish(recipe, wish)


def world_that_falls_short(recipe, wish, acts):
    """Return the first world left with another outcome than a wish that is not None, or None."""
    for world in all_left(recipe, acts):
        if outcome_left(recipe, acts, world) != wish:
            return world
    return None


def cures(recipe, wish, acts):
    """Return whether what are surely bought acts are a cure."""
    if wish is None:
        return is_same_under(recipe, acts)
    return all_left(recipe, acts) != [] and world_that_falls_short(recipe, wish, acts) is None


def is_cure(recipe, offers, wish, acts):
    """Return whether bought acts are a cure."""
    check_problem(recipe, offers, wish)
    check_bought(recipe, offers, acts)
    return cures(recipe, wish, acts)


def touches_world(recipe, act, world):
    """Return whether what is surely an act of a recipe touches a world of it."""
    word, number, other = act
    if word == "pin":
        return world[number] != other
    return recipe[0][other][world[other]] != ""


def touches(recipe, act, world):
    """Return whether an act touches a world."""
    check_recipe(recipe)
    check_act(recipe, act)
    check_world(recipe, world)
    return touches_world(recipe, act, world)
