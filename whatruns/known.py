"""Whether the totals always tell what has run, and what shows that they do or do not."""

from whatruns.errors import TooLarge
from whatruns.houses import check_house, is_between, is_run, is_whole, watts
from whatruns.pairs import Moves, all_differ, ascending_ranks, descends, differs, go_on, go_round
from whatruns.pairs import is_ascending_pair, rank_pairs, sides, way_to

MOST_TWINS = 600


class Known:
    """Each state is told so many ticks later: ranks for the twins, and two runs that differ for so long."""

    def __init__(self, delay, ranks, one, other):
        self.delay = delay
        self.ranks = {twin: ranks[twin] for twin in ranks}
        self.one = list(one)
        self.other = list(other)

    def __eq__(self, other):
        return (isinstance(other, Known) and self.delay == other.delay and self.ranks == other.ranks
                and self.one == other.one and self.other == other.other)

    def shows(self, house):
        """Whether the attributes show that the states of this house are told with this delay, and not sooner."""
        check_house(house)
        if not is_whole(self.delay) or self.delay < 0:
            return False
        return _are_ranks(house, self.ranks, self.delay) and _differ_for(house, self.one, self.other, self.delay)


class Gemini:
    """Two runs that the meter never tells apart: they meet again, or can go round for ever."""

    def __init__(self, one, other, back):
        self.one = list(one)
        self.other = list(other)
        self.back = back

    def __eq__(self, other):
        return (isinstance(other, Gemini) and self.one == other.one and self.other == other.other
                and self.back == other.back)

    def shows(self, house):
        """Whether the attributes show that the meter never tells two runs of this house apart."""
        check_house(house)
        if not _look_alike(house, self.one, self.other) or self.one == self.other:
            return False
        if self.back is None:
            return self.one[-1] == self.other[-1]
        if not is_between(self.back, 0, len(self.one) - 2):
            return False
        first, second = self.one[self.back], self.other[self.back]
        return first != second and first == self.one[-1] and second == self.other[-1]


def _look_alike(house, one, other):
    """Whether these are two runs of the same length with the same readings."""
    if not is_run(house, one) or not is_run(house, other):
        return False
    return [watts(house, state) for state in one] == [watts(house, state) for state in other]


def _differ_for(house, one, other, delay):
    """Whether these are two runs with the same readings whose last states, as many as the delay says, differ."""
    if not _look_alike(house, one, other) or len(one) < delay:
        return False
    behind = len(one) - delay
    return all_differ(one[behind:], other[behind:])


def _is_twin(house, pair):
    return is_ascending_pair(house, pair) and watts(house, pair[0]) == watts(house, pair[1])


def _are_ranks(house, ranks, delay):
    """Whether these are ranks below the delay that show that twins follow one another for so long at most."""
    if not all([_is_twin(house, twin) and is_between(ranks[twin], 0, delay - 1) for twin in ranks]):
        return False
    moves = Moves(house, ())
    branching = [twin for state in moves.after for twin in moves.followers((state, state))]
    if not all([twin in ranks for twin in branching]):
        return False
    return all([not moves.meetings(twin) and descends(moves, ranks, twin) for twin in ranks])


def _find_ways(house, moves):
    """For each pair with the same reading to which two runs can come, the pair before it; None for the first one."""
    first = (house.idle(), house.idle())
    ways = {first: None}
    layer = [first]
    while layer:
        fresh = []
        for pair in list(layer):
            for later in moves.pairs_after(pair):
                if later not in ways:
                    ways[later] = pair
                    fresh.append(later)
        # Beside at most one pair for each state with itself, ways has each twin twice: with either state first.
        if len(ways) > len(moves.after) + 2 * MOST_TWINS:
            raise TooLarge("too many twins branch from states, or follow such twins")
        layer = fresh
    return ways


def tell(house):
    """A Known if the totals always tell what has run, otherwise a Gemini."""
    check_house(house)
    moves = Moves(house, ())
    ways = _find_ways(house, moves)
    twins = [pair for pair in ways if differs(pair)]
    for pair in twins:
        meetings = moves.meetings(pair)
        if meetings:
            return _gemini(way_to(ways, pair) + [(meetings[0], meetings[0])], None)
    follows = {pair: moves.pairs_after(pair) for pair in twins}
    ranks = rank_pairs(follows)
    for pair in twins:
        if pair not in ranks:
            path = go_round(way_to(ways, pair), follows, ranks)
            return _gemini(path, path.index(path[-1]))
    return _known(ways, follows, ranks)


def _gemini(path, back):
    one, other = sides(path)
    return Gemini(one, other, back)


def _known(ways, follows, ranks):
    if not ranks:
        return Known(0, {}, [], [])
    # A pair of the highest rank follows no other twin, so it branches.
    top = max(ranks, key=lambda pair: ranks[pair])
    one, other = sides(go_on(way_to(ways, top), follows, ranks))
    return Known(ranks[top] + 1, ascending_ranks(ranks), one, other)


def does_tell(house):
    """Whether the totals always tell what has run."""
    return isinstance(tell(house), Known)


def delay(house):
    """How many ticks later what has run is told at most; None if it is not always told."""
    found = tell(house)
    return found.delay if isinstance(found, Known) else None
