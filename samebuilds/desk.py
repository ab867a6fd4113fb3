"""Desks, at which offered acts are bought step by step."""

from samebuilds.budgets import count_classes
from samebuilds.errors import Bought, NothingToUndo, NotOffered
from samebuilds.offers import acts_offered, check_offers, sum_of_prices
from samebuilds.recipes import check_recipe, is_act


class Desk:
    """A recipe, offers of it, and bought acts with the steps by which they came about."""

    def __init__(self, recipe, offers):
        check_recipe(recipe)
        check_offers(recipe, offers)
        self._recipe = recipe
        self._offers = offers
        self._bought = ()
        # The acts of the steps that can be undone: each step bought its act or gave it back.
        self._steps = []

    def __len__(self):
        return len(self._bought)

    def __str__(self):
        return str(self.price())

    def __eq__(self, other):
        return (
            isinstance(other, Desk) and self._recipe == other._recipe and self._offers == other._offers
            and self._bought == other._bought
        )

    def _check_offered(self, act):
        """Raise NotOffered if act is not an offered act."""
        # Acts are asked for their kinds first: other objects may refuse to be compared with those that are offered.
        if not is_act(self._recipe, act) or act not in acts_offered(self._offers):
            raise NotOffered("this act is not offered")

    def _turn(self, act):
        """Buy an offered act that is not bought, or give back one that is."""
        if act in self._bought:
            self._bought = tuple([one for one in self._bought if one != act])
        else:
            self._bought = tuple(sorted(self._bought + (act,)))

    def buy(self, act):
        """Buy an offered act and return the number of classes then, 0 if no world is left."""
        self._check_offered(act)
        if act in self._bought:
            raise Bought("this act is bought already")
        self._turn(act)
        self._steps.append(act)
        return count_classes(self._recipe, self._bought)

    def give_back(self, act):
        """Give a bought act back and return its price."""
        self._check_offered(act)
        if act not in self._bought:
            raise Bought("this act is not bought")
        self._turn(act)
        self._steps.append(act)
        return sum_of_prices(self._offers, (act,))

    def acts(self):
        """Return the bought acts."""
        return self._bought

    def price(self):
        """Return the price of the bought acts."""
        return sum_of_prices(self._offers, self._bought)

    def undo(self):
        """Undo the last step and return its act."""
        if self._steps == []:
            raise NothingToUndo("no step is left that can be undone")
        act = self._steps.pop()
        self._turn(act)
        return act

    def duplicate(self):
        """Return a desk with the same recipe, offers and bought acts, in which no step made so far can be undone."""
        other = Desk(self._recipe, self._offers)
        other._bought = self._bought
        return other
