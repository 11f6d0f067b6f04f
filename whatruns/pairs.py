"""Pairs of states with the same reading, how they follow one another, and for how long."""

from whatruns.houses import every_state, next_states, watts


class Moves:
    """All states of a house: what the meter shows in each, and which ones can come next."""

    def __init__(self, house):
        states = every_state(house)
        self.shown = {state: watts(house, state) for state in states}
        self.after = {state: next_states(house, state) for state in states}

    def pairs_after(self, pair):
        """The pairs, with the same reading, of a state that can come after the first one and one after the second."""
        first, second = pair
        found = [(one, other) for one in self.after[first] for other in self.after[second]]
        return [later for later in found if self.shown[later[0]] == self.shown[later[1]]]

    def meetings(self, pair):
        """The states that can come next after both states of a pair."""
        first, second = pair
        return [state for state in self.after[first] if state in self.after[second]]


def differs(pair):
    """Whether the two states of a pair are different."""
    first, second = pair
    return first != second


def ascending(pair):
    """The pair with its lesser state first."""
    first, second = pair
    return (min(first, second), max(first, second))


def rank_pairs(follows):
    """A rank for each pair that can be followed only so many times: one more than the highest that follows it."""
    ranks = {}
    left = list(follows)
    ended = [pair for pair in left if not follows[pair]]
    rank = 0
    while ended:
        for pair in ended:
            ranks[pair] = rank
        left = [pair for pair in left if pair not in ranks]
        ended = [pair for pair in left if all([later in ranks for later in follows[pair]])]
        rank += 1
    return ranks


def way_to(ways, pair):
    """The pairs from the one behind the first up to this one; ways has the pair before each, and None for the first."""
    path = []
    while ways[pair] is not None:
        path.append(pair)
        pair = ways[pair]
    return path[::-1]
