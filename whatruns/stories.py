"""Runs that explain readings with as few starts as possible, and what all such runs have in common."""

from whatruns.errors import BadReadings
from whatruns.houses import check_house, facts_of, is_between, is_run, is_state, is_whole
from whatruns.houses import next_states, started, watts

MOST_READINGS = 8
MOST_SHOWN = 27


class Story:
    """A run with given readings, and floors that show that no such run has fewer starts."""

    def __init__(self, states, floors):
        self.states = list(states)
        self.floors = {spot: floors[spot] for spot in floors}

    def __iter__(self):
        return iter(self.states)

    def __eq__(self, other):
        return isinstance(other, Story) and self.states == other.states and self.floors == other.floors

    def shows(self, house, shown):
        """Whether the attributes show a run with these readings, and that none has fewer starts."""
        _check(house, shown)
        if not is_run(house, self.states) or [watts(house, state) for state in self.states] != list(shown):
            return False
        if not all([_is_spot(house, spot) and is_whole(self.floors[spot]) for spot in self.floors]):
            return False
        made = sum([started(state) for state in self.states])
        if made > 0 and self.floors.get(_first_spot(house), 0) < made:
            return False
        return all([_is_held(house, shown, self.floors, spot) for spot in self.floors])


class NoStory:
    """Spots that one cannot leave, and that end too soon: no run has the given readings."""

    def __init__(self, spots):
        self.spots = list(spots)

    def __iter__(self):
        return iter(self.spots)

    def __eq__(self, other):
        return isinstance(other, NoStory) and self.spots == other.spots

    def shows(self, house, shown):
        """Whether the attributes show that no run has these readings."""
        _check(house, shown)
        if not all([_is_spot(house, spot) and spot[0] < len(shown) for spot in self.spots]):
            return False
        inside = {spot: True for spot in self.spots}
        later = [after for spot in inside for after in _leads(house, shown, spot)]
        return _first_spot(house) in inside and all([spot in inside for spot in later])


def _check(house, shown):
    check_house(house)
    if not isinstance(shown, (list, tuple)) or not 1 <= len(shown) <= MOST_READINGS:
        raise BadReadings(None)
    for index, total in enumerate(shown):
        if not is_between(total, 0, MOST_SHOWN):
            raise BadReadings(index)


def _first_spot(house):
    return (0, house.idle())


def _is_spot(house, spot):
    if not isinstance(spot, tuple) or len(spot) != 2:
        return False
    number, state = spot
    return is_whole(number) and number >= 0 and is_state(house, state)


def _leads(house, shown, spot):
    """The spots to which a spot leads."""
    number, state = spot
    if number >= len(shown):
        return []
    return [(number + 1, later) for later in next_states(house, state) if watts(house, later) == shown[number]]


def _is_held(house, shown, floors, spot):
    """Whether a spot is not the last one if it has a floor above 0, and whatever it leads to takes this floor on."""
    floor = floors[spot]
    if floor <= 0:
        return True
    if spot[0] >= len(shown):
        return False
    for later in _leads(house, shown, spot):
        rest = floor - started(later[1])
        if rest > 0 and floors.get(later, 0) < rest:
            return False
    return True


def _search(house, shown):
    """For each spot that is reached, by number: the fewest starts up to it, and the spot before it with these."""
    first = _first_spot(house)
    fewest, before = {first: 0}, {first: None}
    layer = [first]
    while layer:
        fresh = []
        for spot in list(layer):
            for later in _leads(house, shown, spot):
                made = fewest[spot] + started(later[1])
                if later not in fewest:
                    fresh.append(later)
                if later not in fewest or made < fewest[later]:
                    fewest[later] = made
                    before[later] = spot
        layer = fresh
    return fewest, before


def _way_to(before, spot):
    """The states on the way to a spot, without that of the first spot."""
    states = []
    while before[spot] is not None:
        states.append(spot[1])
        spot = before[spot]
    return states[::-1]


def find_story(house, shown):
    """A Story for these readings if there is a run with them, otherwise a NoStory."""
    _check(house, shown)
    fewest, before = _search(house, shown)
    ends = [spot for spot in fewest if spot[0] == len(shown)]
    if not ends:
        return NoStory(sorted(fewest))
    end = min(ends, key=lambda spot: fewest[spot])
    # What is still missing at a spot from the fewest starts of all cannot be saved on any way from it to an end.
    floors = {spot: fewest[end] - fewest[spot] for spot in fewest if fewest[spot] < fewest[end]}
    return Story(_way_to(before, end), floors)


def fewest_starts(house, shown):
    """With how few starts these readings can be explained; None if they cannot."""
    found = find_story(house, shown)
    return sum([started(state) for state in found.states]) if isinstance(found, Story) else None


def _lasting(house, shown):
    """The spots that are on a way to an end, from the last ones to the first one."""
    fewest, _ = _search(house, shown)
    lasting = {}
    for spot in reversed(list(fewest)):
        if spot[0] == len(shown) or any([later in lasting for later in _leads(house, shown, spot)]):
            lasting[spot] = True
    return list(lasting)


def facts(house, shown):
    """For each reading, what all runs with these readings agree on about each device; None if there is no run."""
    _check(house, shown)
    spots = _lasting(house, shown)
    if not spots:
        return None
    found = []
    for number in range(1, len(shown) + 1):
        found.append(facts_of(house, [spot[1] for spot in spots if spot[0] == number]))
    return found
