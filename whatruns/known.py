"""Whether the totals always tell what has run, and what shows that they do or do not."""

from whatruns.errors import TooLarge
from whatruns.houses import check_house, is_between, is_run, is_state, is_whole, watts
from whatruns.pairs import Moves, ascending, differs, rank_pairs, way_to

MOST_TWINS = 600


class Known:
    """Each state is told so many ticks later: ranks for the twins, and two runs that differ for so long."""

    def __init__(self, delay, ranks, one, other):
        self.delay = delay
        self.ranks = {twin: ranks[twin] for twin in ranks}
        self.one = list(one)
        self.other = list(other)

    def __eq__(self, other):
        return (isinstance(other, Known) and self.delay == other.delay and self.ranks == other.ranks
                and self.one == other.one and self.other == other.other)

    def shows(self, house):
        """Whether the attributes show that the states of this house are told with this delay, and not sooner."""
        check_house(house)
        if not is_whole(self.delay) or self.delay < 0:
            return False
        return _are_ranks(house, self.ranks, self.delay) and _differ_for(house, self.one, self.other, self.delay)


class Gemini:
    """Two runs that the meter never tells apart: they meet again, or can go round for ever."""

    def __init__(self, one, other, back):
        self.one = list(one)
        self.other = list(other)
        self.back = back

    def __eq__(self, other):
        return (isinstance(other, Gemini) and self.one == other.one and self.other == other.other
                and self.back == other.back)

    def shows(self, house):
        """Whether the attributes show that the meter never tells two runs of this house apart."""
        check_house(house)
        if not _look_alike(house, self.one, self.other) or self.one == self.other:
            return False
        if self.back is None:
            return self.one[-1] == self.other[-1]
        if not is_between(self.back, 0, len(self.one) - 2):
            return False
        first, second = self.one[self.back], self.other[self.back]
        return first != second and first == self.one[-1] and second == self.other[-1]


def _look_alike(house, one, other):
    """Whether these are two runs of the same length with the same readings."""
    if not is_run(house, one) or not is_run(house, other):
        return False
    return [watts(house, state) for state in one] == [watts(house, state) for state in other]


def _differ_for(house, one, other, delay):
    """Whether these are two runs with the same readings whose last states, as many as the delay says, differ."""
    if not _look_alike(house, one, other) or len(one) < delay:
        return False
    behind = len(one) - delay
    return all([first != second for first, second in zip(one[behind:], other[behind:])])


def _is_twin(house, pair):
    if not isinstance(pair, tuple) or len(pair) != 2:
        return False
    first, second = pair
    if not is_state(house, first) or not is_state(house, second):
        return False
    return first < second and watts(house, first) == watts(house, second)


def _are_ranks(house, ranks, delay):
    """Whether these are ranks below the delay that show that twins follow one another for so long at most."""
    if not all([_is_twin(house, twin) and is_between(ranks[twin], 0, delay - 1) for twin in ranks]):
        return False
    moves = Moves(house)
    branching = [twin for state in moves.after for twin in _twins_after(moves, (state, state))]
    return all([twin in ranks for twin in branching]) and all([_descends(moves, ranks, twin) for twin in ranks])


def _twins_after(moves, pair):
    return [ascending(later) for later in moves.pairs_after(pair) if differs(later)]


def _descends(moves, ranks, twin):
    """Whether the states of a twin cannot meet, and each twin that follows it has a lesser rank."""
    if moves.meetings(twin):
        return False
    return all([later in ranks and ranks[later] < ranks[twin] for later in _twins_after(moves, twin)])


def _find_ways(house, moves):
    """For each pair with the same reading to which two runs can come, the pair before it; None for the first one."""
    first = (house.idle(), house.idle())
    ways = {first: None}
    layer = [first]
    while layer:
        fresh = []
        for pair in list(layer):
            for later in moves.pairs_after(pair):
                if later not in ways:
                    ways[later] = pair
                    fresh.append(later)
        # Beside at most one pair for each state with itself, ways has each twin twice: with either state first.
        if len(ways) > len(moves.after) + 2 * MOST_TWINS:
            raise TooLarge("too many twins branch from states, or follow such twins")
        layer = fresh
    return ways


def tell(house):
    """A Known if the totals always tell what has run, otherwise a Gemini."""
    check_house(house)
    moves = Moves(house)
    ways = _find_ways(house, moves)
    twins = [pair for pair in ways if differs(pair)]
    for pair in twins:
        meetings = moves.meetings(pair)
        if meetings:
            return _gemini(way_to(ways, pair) + [(meetings[0], meetings[0])], None)
    follows = {pair: moves.pairs_after(pair) for pair in twins}
    ranks = rank_pairs(follows)
    for pair in twins:
        if pair not in ranks:
            return _going_round(way_to(ways, pair), follows, ranks)
    return _known(ways, follows, ranks)


def _gemini(path, back):
    return Gemini([pair[0] for pair in path], [pair[1] for pair in path], back)


def _going_round(path, follows, ranks):
    """Go on from the end of this path, always to a pair without a rank, until one comes again."""
    path = list(path)
    while path[-1] not in path[:-1]:
        path.append([later for later in follows[path[-1]] if later not in ranks][0])
    return _gemini(path, path.index(path[-1]))


def _known(ways, follows, ranks):
    if not ranks:
        return Known(0, {}, [], [])
    # A pair of the highest rank follows no other twin, so it branches.
    top = max(ranks, key=lambda pair: ranks[pair])
    path = way_to(ways, top)
    while follows[path[-1]]:
        path.append(max(follows[path[-1]], key=lambda pair: ranks[pair]))
    twins = {pair: ranks[pair] for pair in sorted(ranks) if pair == ascending(pair)}
    return Known(ranks[top] + 1, twins, [pair[0] for pair in path], [pair[1] for pair in path])


def does_tell(house):
    """Whether the totals always tell what has run."""
    return isinstance(tell(house), Known)


def delay(house):
    """How many ticks later what has run is told at most; None if it is not always told."""
    found = tell(house)
    return found.delay if isinstance(found, Known) else None
