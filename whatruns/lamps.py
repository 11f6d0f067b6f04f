"""The cheapest lamps with which it is always known at last what runs."""

from whatruns.clear import Clears, Clouds, clearing
from whatruns.errors import BadPrices
from whatruns.houses import check_house, is_between
from whatruns.views import are_lamps

MOST_PRICE = 9


class Lamps:
    """A choice of lamps, its Clears, and for each choice that costs less a Clouds."""

    def __init__(self, lamps, clears, doubts):
        self.lamps = lamps
        self.clears = clears
        self.doubts = {some: doubts[some] for some in doubts}

    def __iter__(self):
        return iter(self.doubts.items())

    def __eq__(self, other):
        return (isinstance(other, Lamps) and self.lamps == other.lamps and self.clears == other.clears
                and self.doubts == other.doubts)

    def shows(self, house, prices):
        """Whether the attributes show that the choice is one of the cheapest with which the house has a Clears."""
        _check(house, prices)
        if not all([are_lamps(house, some) for some in [self.lamps] + list(self.doubts)]):
            return False
        cost = _cost(prices, self.lamps)
        cheaper = [some for some in _choices(prices) if _cost(prices, some) < cost]
        if len(self.doubts) != len(cheaper) or not all([some in self.doubts for some in cheaper]):
            return False
        if not isinstance(self.clears, Clears) or not self.clears.shows(house, self.lamps):
            return False
        return all([_is_doubt(self.doubts[some], house, some) for some in cheaper])


def _check(house, prices):
    check_house(house)
    if not isinstance(prices, tuple) or len(prices) != len(house):
        raise BadPrices("this is not a tuple with a price for each device of the house")
    if not all([is_between(price, 1, MOST_PRICE) for price in prices]):
        raise BadPrices("one of these prices is not an integer that a lamp can cost")


def _is_doubt(doubt, house, some):
    """Whether this is a Clouds that shows that these lamps are not enough."""
    return isinstance(doubt, Clouds) and doubt.shows(house, some)


def _cost(prices, some):
    return sum([prices[device] for device in some])


def _choices(prices):
    """All choices of lamps, in order."""
    found = [()]
    for device in range(len(prices)):
        found = found + [some + (device,) for some in found]
    ordered = sorted([(_cost(prices, some), len(some), some) for some in found])
    return [row[2] for row in ordered]


def light(house, prices):
    """A Lamps: the first choice of lamps with which the house has a Clears, and why no other one costs less."""
    _check(house, prices)
    found = {}
    for some in _choices(prices):
        found[some] = clearing(house, some)
        # With lamps for all devices there is always a Clears, so this holds for one of the choices.
        if isinstance(found[some], Clears):
            break
    lamps = list(found)[-1]
    cost = _cost(prices, lamps)
    return Lamps(lamps, found[lamps], {some: found[some] for some in found if _cost(prices, some) < cost})


def least_price(house, prices):
    """How much the cheapest lamps cost with which it is always known at last what runs."""
    return _cost(prices, light(house, prices).lamps)
