"""Houses, the states that they can be in, and runs."""

from whatruns.errors import BadHouse, BadRun, BadState

MOST_DEVICES = 3
MOST_TICKS = 4
MOST_WATTS = 9


def is_whole(value):
    """Whether this is an integer; True and False are not."""
    return isinstance(value, int) and not isinstance(value, bool)


def is_between(value, low, high):
    """Whether this is an integer from low to high."""
    return is_whole(value) and low <= value <= high


def _is_profile(profile):
    if not isinstance(profile, tuple) or not 1 <= len(profile) <= MOST_TICKS:
        return False
    return all([is_between(watt, 1, MOST_WATTS) for watt in profile])


def _are_profiles(profiles):
    if not isinstance(profiles, tuple) or not 1 <= len(profiles) <= MOST_DEVICES:
        return False
    return all([_is_profile(profile) for profile in profiles])


class House:
    """A profile for each device, and how many devices can run at once."""

    def __init__(self, profiles, most):
        if not _are_profiles(profiles):
            raise BadHouse("PROFILES")
        if not is_between(most, 1, MOST_DEVICES):
            raise BadHouse("MOST")
        self._profiles = profiles
        self._most = most

    def __iter__(self):
        return iter(self._profiles)

    def __len__(self):
        return len(self._profiles)

    def __eq__(self, other):
        return isinstance(other, House) and self._profiles == other._profiles and self._most == other._most

    @property
    def most(self):
        """The greatest number of devices that can run at once."""
        return self._most

    def idle(self):
        """The state in which no device runs."""
        return (0,) * len(self._profiles)


def check_house(house):
    """Raise BadHouse if this is not a House."""
    if not isinstance(house, House):
        raise BadHouse(None)


def running(state):
    """How many devices run in a state."""
    return len([tick for tick in state if tick > 0])


def started(state):
    """How many devices were started for a state: a device is at tick 1 only when it has just been started."""
    return len([tick for tick in state if tick == 1])


def watts(house, state):
    """What the meter shows in what surely is a state."""
    return sum([profile[tick - 1] for profile, tick in zip(house, state) if tick > 0])


def is_state(house, state):
    """Whether this is a state of the house."""
    if not isinstance(state, tuple) or len(state) != len(house):
        return False
    if not all([is_between(tick, 0, len(profile)) for profile, tick in zip(house, state)]):
        return False
    return running(state) <= house.most


def every_state(house):
    """All states of the house, ascending."""
    found = [()]
    for profile in house:
        found = [begun + (tick,) for begun in found for tick in range(len(profile) + 1)]
    return [state for state in found if running(state) <= house.most]


def _fact(states, device):
    runs = [state[device] > 0 for state in states]
    if all(runs):
        return True
    return None if any(runs) else False


def facts_of(house, states):
    """For each device, whether it runs in all of these states (True), in none of them (False), or neither (None)."""
    return tuple([_fact(states, device) for device in range(len(house))])


def _later_ticks(profile, tick):
    if tick == 0:
        return [0, 1]
    if tick == len(profile):
        return [0]
    return [tick + 1]


def next_states(house, state):
    """The states that can come next after what surely is a state, ascending."""
    found = [()]
    for profile, tick in zip(house, state):
        found = [begun + (later,) for begun in found for later in _later_ticks(profile, tick)]
    return [later for later in found if running(later) <= house.most]


def _first_stray(house, states):
    """The index of the first item that is not a state that can come then, or None."""
    before = house.idle()
    for index, state in enumerate(states):
        # Only the first test knows True from 1, so it must stand beside the second one.
        if not is_state(house, state) or state not in next_states(house, before):
            return index
        before = state
    return None


def is_run(house, states):
    """Whether this list is a run of the house."""
    return _first_stray(house, states) is None


def is_track(house, states):
    """Whether this list is one of states each of which, but the first, can come next after the one before it."""
    if not all([is_state(house, state) for state in states]):
        return False
    return all([later in next_states(house, state) for state, later in zip(states, states[1:])])


def _check_run(house, states):
    check_house(house)
    if not isinstance(states, (list, tuple)):
        raise BadRun(None)
    index = _first_stray(house, states)
    if index is not None:
        raise BadRun(index)


def check_state(house, state):
    """Raise BadState if this is not a state of the house."""
    if not is_state(house, state):
        raise BadState("this is not a state of the house")


def reading(house, state):
    """What the meter shows in a state."""
    check_house(house)
    check_state(house, state)
    return watts(house, state)


def steps(house, state):
    """The ascending list of the states that can come next after a state."""
    check_house(house)
    check_state(house, state)
    return next_states(house, state)


def readings(house, states):
    """What the meter shows in the states of a run."""
    _check_run(house, states)
    return [watts(house, state) for state in states]


def starts(house, states):
    """How many starts of devices there are in a run."""
    _check_run(house, states)
    return sum([started(state) for state in states])
