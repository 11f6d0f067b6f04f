"""Pairs of states in which the same is seen, how they follow one another, and for how long."""

from whatruns.houses import every_state, is_state, next_states
from whatruns.views import view_of


class Moves:
    """All states of a house: what is seen in each with some lamps, and which ones can come next."""

    def __init__(self, house, lamps):
        states = every_state(house)
        self.seen_in = {state: view_of(house, lamps, state) for state in states}
        self.after = {state: next_states(house, state) for state in states}

    def pairs_after(self, pair):
        """The pairs of a state that can come after the first one and one after the second, if they look alike."""
        first, second = pair
        found = [(one, other) for one in self.after[first] for other in self.after[second]]
        return [later for later in found if self.seen_in[later[0]] == self.seen_in[later[1]]]

    def different_after(self, pair):
        """Those of them that have two different states."""
        return [later for later in self.pairs_after(pair) if differs(later)]

    def followers(self, pair):
        """The same, with the lesser state first. What follows a pair of one state with itself branches from it."""
        return [ascending(later) for later in self.different_after(pair)]

    def meetings(self, pair):
        """The states that can come next after both states of a pair."""
        first, second = pair
        return [state for state in self.after[first] if state in self.after[second]]

    def look_alike(self, one, other):
        """Whether the same is seen, one by one, in the states of two lists of the same length."""
        return [self.seen_in[state] for state in one] == [self.seen_in[state] for state in other]


def differs(pair):
    """Whether the two states of a pair are different."""
    first, second = pair
    return first != second


def all_differ(one, other):
    """Whether the states of two lists of the same length differ one by one."""
    return all([differs(pair) for pair in zip(one, other)])


def ascending(pair):
    """The pair with its lesser state first."""
    first, second = pair
    return (min(first, second), max(first, second))


def is_ascending_pair(house, pair):
    """Whether this is a pair of two different states of the house, the lesser one first."""
    if not isinstance(pair, tuple) or len(pair) != 2:
        return False
    first, second = pair
    return is_state(house, first) and is_state(house, second) and first < second


def descends(moves, ranks, pair):
    """Whether each pair that follows this one has a lesser rank."""
    return all([later in ranks and ranks[later] < ranks[pair] for later in moves.followers(pair)])


def rank_pairs(follows):
    """A rank for each pair that can be followed only so many times: one more than the highest that follows it."""
    ranks = {}
    left = list(follows)
    ended = [pair for pair in left if not follows[pair]]
    rank = 0
    while ended:
        for pair in ended:
            ranks[pair] = rank
        left = [pair for pair in left if pair not in ranks]
        ended = [pair for pair in left if all([later in ranks for later in follows[pair]])]
        rank += 1
    return ranks


def ascending_ranks(ranks):
    """Those of the ranks whose pair has its lesser state first, in the order of the pairs."""
    return {pair: ranks[pair] for pair in sorted(ranks) if pair == ascending(pair)}


def way_to(ways, pair):
    """The pairs from the one behind the first up to this one; ways has the pair before each, and None for the first."""
    path = []
    while ways[pair] is not None:
        path.append(pair)
        pair = ways[pair]
    return path[::-1]


def go_on(path, follows, ranks):
    """This path, gone on with for as long as there are pairs that follow, by the highest ranks."""
    path = list(path)
    while follows[path[-1]]:
        path.append(max(follows[path[-1]], key=lambda pair: ranks[pair]))
    return path


def go_round(path, follows, ranks):
    """This path, gone on with, always to a pair without a rank, until one comes again."""
    path = list(path)
    while path[-1] not in path[:-1]:
        path.append([later for later in follows[path[-1]] if later not in ranks][0])
    return path


def sides(path):
    """The first states of the pairs of a path, and the second ones."""
    return [pair[0] for pair in path], [pair[1] for pair in path]
