"""Cheapest cures: the least price of a cure, all cures with it, and the acts that are in all of these."""

from samebuilds.offers import acts_offered, all_bought, check_problem, cures, sum_of_prices


def cheapest_cures(recipe, offers, wish):
    """Return the ascending list of all cures with the least price, for arguments that are surely right."""
    found = []
    least = None
    for price, acts in all_bought(offers):
        if least is not None and price > least:
            return found
        if cures(recipe, wish, acts):
            found.append(acts)
            least = price
    return found


def least_price(recipe, offers, wish):
    """Return the least price of a cure, or None if there is none."""
    check_problem(recipe, offers, wish)
    found = cheapest_cures(recipe, offers, wish)
    return sum_of_prices(offers, found[0]) if found != [] else None


def all_cheapest(recipe, offers, wish):
    """Return the ascending list of all cures with the least price."""
    check_problem(recipe, offers, wish)
    return cheapest_cures(recipe, offers, wish)


def is_in_all(act, some):
    """Return whether an act is in each of some bought acts."""
    for acts in some:
        if act not in acts:
            return False
    return True


def sure_acts(recipe, offers, wish):
    """Return the ascending list of the acts that are in all cures with the least price, none if there is no cure."""
    check_problem(recipe, offers, wish)
    found = cheapest_cures(recipe, offers, wish)
    if found == []:
        return []
    return [act for act in acts_offered(offers) if is_in_all(act, found)]
