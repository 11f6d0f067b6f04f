"""Lamps, and what is seen with them."""

from whatruns.errors import BadLamps
from whatruns.houses import is_between, watts


def are_lamps(house, lamps):
    """Whether this is an ascending tuple of devices of the house."""
    if not isinstance(lamps, tuple) or not all([is_between(device, 0, len(house) - 1) for device in lamps]):
        return False
    return all([device < later for device, later in zip(lamps, lamps[1:])])


def check_lamps(house, lamps):
    """Raise BadLamps if this is not an ascending tuple of devices of the house."""
    if not are_lamps(house, lamps):
        raise BadLamps("this is not an ascending tuple of devices of the house")


def view_of(house, lamps, state):
    """What is seen in what surely is a state."""
    return (watts(house, state), tuple([state[device] > 0 for device in lamps]))
