"""Whether it is always known at last what runs, with some lamps, when nobody knows what ran at first."""

from whatruns.errors import TooLarge
from whatruns.houses import check_house, check_state, is_between, is_track, is_whole
from whatruns.pairs import Moves, all_differ, ascending_ranks, descends, go_on, go_round, is_ascending_pair
from whatruns.pairs import rank_pairs, sides
from whatruns.views import check_lamps, view_of

MOST_BLURS = 800


def seen(house, lamps, state):
    """What is seen in a state: what the meter shows, and for each lamp whether its device runs."""
    check_house(house)
    check_lamps(house, lamps)
    check_state(house, state)
    return view_of(house, lamps, state)


class Clears:
    """It is always known so many ticks later what runs: ranks for blurs, and two tracks that differ for so long."""

    def __init__(self, ticks, ranks, one, other):
        self.ticks = ticks
        self.ranks = {pair: ranks[pair] for pair in ranks}
        self.one = list(one)
        self.other = list(other)

    def __eq__(self, other):
        return (isinstance(other, Clears) and self.ticks == other.ticks and self.ranks == other.ranks
                and self.one == other.one and self.other == other.other)

    def shows(self, house, lamps):
        """Whether the attributes show that it is known so many ticks later what runs, and not always sooner."""
        check_house(house)
        check_lamps(house, lamps)
        if not is_whole(self.ticks) or self.ticks < 0:
            return False
        moves = Moves(house, lamps)
        if _forks(moves) or not _are_ranks(house, moves, self.ranks, self.ticks):
            return False
        if not _are_alike(house, moves, self.one, self.other):
            return False
        return len(self.one) == self.ticks and all_differ(self.one, self.other)


class Clouds:
    """Two tracks in which the same is seen, and whose last states differ: they fork, or can go round for ever."""

    def __init__(self, one, other, back):
        self.one = list(one)
        self.other = list(other)
        self.back = back

    def __eq__(self, other):
        return (isinstance(other, Clouds) and self.one == other.one and self.other == other.other
                and self.back == other.back)

    def shows(self, house, lamps):
        """Whether the attributes show that it is not always known at last what runs."""
        check_house(house)
        check_lamps(house, lamps)
        if not self.one or not _are_alike(house, Moves(house, lamps), self.one, self.other):
            return False
        if self.back is None:
            return self.one[0] == self.other[0] and self.one[-1] != self.other[-1]
        if not is_between(self.back, 0, len(self.one) - 2):
            return False
        round_one, round_other = self.one[self.back:], self.other[self.back:]
        if round_one[0] != round_one[-1] or round_other[0] != round_other[-1]:
            return False
        return all_differ(round_one, round_other)


def _forks(moves):
    """The pairs of two states that can come next after the same state, and in which the same is seen."""
    return [pair for state in moves.after for pair in moves.followers((state, state))]


def _are_alike(house, moves, one, other):
    """Whether these are two tracks of the same length in which the same is seen, state by state."""
    return is_track(house, one) and is_track(house, other) and moves.look_alike(one, other)


def _are_ranks(house, moves, ranks, ticks):
    """Whether these are ranks below the ticks that show that blurs follow one another for so long at most."""
    if not all([is_ascending_pair(house, pair) and is_between(ranks[pair], 0, ticks - 1) for pair in ranks]):
        return False
    return all([blur in ranks for blur in _blurs(moves)]) and all([descends(moves, ranks, pair) for pair in ranks])


def _blurs(moves):
    """All pairs of two different states, the lesser one first, in which the same is seen."""
    alike = {}
    for state in moves.after:
        alike.setdefault(moves.seen_in[state], []).append(state)
    found = []
    for states in alike.values():
        for index, first in enumerate(states):
            found.extend([(first, second) for second in states[index + 1:]])
    return found


def clearing(house, lamps):
    """A Clears if it is always known at last what runs, otherwise a Clouds."""
    check_house(house)
    check_lamps(house, lamps)
    moves = Moves(house, lamps)
    blurs = _blurs(moves)
    if len(blurs) > MOST_BLURS:
        raise TooLarge("the same is seen in too many pairs of states")
    for state in moves.after:
        forked = moves.followers((state, state))
        if forked:
            first, second = forked[0]
            return Clouds([state, first], [state, second], None)
    pairs = blurs + [(second, first) for first, second in blurs]
    follows = {pair: moves.different_after(pair) for pair in pairs}
    ranks = rank_pairs(follows)
    for pair in pairs:
        if pair not in ranks:
            path = go_round([pair], follows, ranks)
            one, other = sides(path)
            return Clouds(one, other, path.index(path[-1]))
    return _clears(follows, ranks)


def _clears(follows, ranks):
    if not ranks:
        return Clears(0, {}, [], [])
    top = max(ranks, key=lambda pair: ranks[pair])
    one, other = sides(go_on([top], follows, ranks))
    return Clears(ranks[top] + 1, ascending_ranks(ranks), one, other)


def does_clear(house, lamps):
    """Whether it is always known at last what runs."""
    return isinstance(clearing(house, lamps), Clears)


def ticks_to_clear(house, lamps):
    """How many ticks later it is always known what runs; None if it is not."""
    found = clearing(house, lamps)
    return found.ticks if isinstance(found, Clears) else None
