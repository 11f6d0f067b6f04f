"""What the document says, worked out once more from its words: slow, plain, and without the package.

A house is given here by its profiles and by the greatest number of devices that can run at once.
"""

from itertools import combinations, product


def all_states(profiles, most):
    ticks = [range(len(profile) + 1) for profile in profiles]
    return [state for state in product(*ticks) if sum(tick > 0 for tick in state) <= most]


def can_follow(profiles, most, state, later):
    """Whether one state can come next after another one, device by device."""
    for profile, tick, then in zip(profiles, state, later):
        if tick == 0:
            allowed = (0, 1)
        elif tick == len(profile):
            allowed = (0,)
        else:
            allowed = (tick + 1,)
        if then not in allowed:
            return False
    return sum(tick > 0 for tick in later) <= most


def total(profiles, state):
    return sum(profile[tick - 1] for profile, tick in zip(profiles, state) if tick)


def idle(profiles):
    return tuple(0 for _ in profiles)


class Table:
    """All states of a house with what comes after them and what is shown in them."""

    def __init__(self, profiles, most):
        self.profiles = profiles
        self.most = most
        self.states = all_states(profiles, most)
        self.after = {state: [later for later in self.states if can_follow(profiles, most, state, later)]
                      for state in self.states}
        self.total = {state: total(profiles, state) for state in self.states}
        self.idle = idle(profiles)

    def is_run(self, states):
        return all(later in self.after[state] for state, later in zip([self.idle] + list(states), states))

    def totals(self, states):
        return [self.total[state] for state in states]

    def runs(self, shown):
        """All runs with these readings."""
        found = [[]]
        for watts in shown:
            found = [run + [later] for run in found
                     for later in self.after[run[-1] if run else self.idle] if self.total[later] == watts]
        return found

    def starts(self, states):
        """How many devices are idle in one state and not in the next one."""
        return sum(tick == 0 and then > 0 for state, later in zip([self.idle] + list(states), states)
                   for tick, then in zip(state, later))

    def is_twin(self, pair):
        first, second = pair
        return first < second and self.total[first] == self.total[second]

    def branching(self):
        return {pair for state in self.states for pair in combinations(self.after[state], 2) if self.is_twin(pair)}

    def following(self, twin):
        first, second = twin
        pairs = {tuple(sorted((one, other))) for one in self.after[first] for other in self.after[second]}
        return {pair for pair in pairs if self.is_twin(pair)}

    def twins(self):
        """The twins that branch from states, or follow such twins, at once or later."""
        found, new = set(), self.branching()
        while new:
            found |= new
            new = {later for twin in new for later in self.following(twin)} - found
        return found

    def meets(self, twin):
        first, second = twin
        return bool(set(self.after[first]) & set(self.after[second]))

    def longest(self, twins):
        """How many of these twins can follow one another at most; None if they go on for ever, or meet."""
        if any(self.meets(twin) for twin in twins):
            return None
        length, left = 0, set(twins)
        while left:
            rest = {twin for twin in left if self.following(twin) & left}
            if rest == left:
                return None
            length, left = length + 1, rest
        return length

    def delay(self):
        """The delay, None if there is none, or 'LARGE' if there are more than 600 twins."""
        twins = self.twins()
        return "LARGE" if len(twins) > 600 else self.longest(twins)

    def shows_known(self, delay, ranks, one, other):
        if delay < 0 or any(twin not in ranks for twin in self.branching()):
            return False
        for twin, rank in ranks.items():
            if not 0 <= rank < delay or self.meets(twin):
                return False
            if any(later not in ranks or ranks[later] >= rank for later in self.following(twin)):
                return False
        if not self.are_alike(one, other) or len(one) < delay:
            return False
        return all(one[-back] != other[-back] for back in range(1, delay + 1))

    def are_alike(self, one, other):
        return self.is_run(one) and self.is_run(other) and self.totals(one) == self.totals(other)

    def shows_gemini(self, one, other, back):
        if not self.are_alike(one, other) or one == other:
            return False
        if back is None:
            return one[-1] == other[-1]
        if back not in range(len(one) - 1):
            return False
        return one[back] != other[back] and one[back] == one[-1] and other[back] == other[-1]

    def leads(self, shown, spot):
        number, state = spot
        if number >= len(shown):
            return []
        return [(number + 1, later) for later in self.after[state] if self.total[later] == shown[number]]

    def shows_story(self, shown, states, floors):
        if not self.is_run(states) or self.totals(states) != list(shown):
            return False
        made = self.starts(states)
        if made > 0 and not ((0, self.idle) in floors and floors[(0, self.idle)] >= made):
            return False
        for spot, floor in floors.items():
            if floor > 0 and spot[0] >= len(shown):
                return False
            for later in self.leads(shown, spot) if floor > 0 else []:
                rest = floor - sum(tick == 0 and then > 0 for tick, then in zip(spot[1], later[1]))
                if rest > 0 and not (later in floors and floors[later] >= rest):
                    return False
        return True

    def shows_no_story(self, shown, spots):
        if (0, self.idle) not in spots or any(number >= len(shown) for number, _ in spots):
            return False
        return all(later in spots for spot in spots for later in self.leads(shown, spot))

    def facts(self, shown):
        runs = self.runs(shown)
        if not runs:
            return None
        found = []
        for at in range(len(shown)):
            told = []
            for device in range(len(self.profiles)):
                kinds = {run[at][device] > 0 for run in runs}
                told.append(kinds.pop() if len(kinds) == 1 else None)
            found.append(tuple(told))
        return found


class Lit(Table):
    """A house with lamps: what is seen in its states, and whether it is known at last what runs."""

    def __init__(self, profiles, most, lamps):
        Table.__init__(self, profiles, most)
        self.lamps = lamps
        self.seen = {state: (self.total[state], tuple(state[device] != 0 for device in lamps))
                     for state in self.states}

    def is_blur(self, pair):
        first, second = pair
        return first < second and self.seen[first] == self.seen[second]

    def blurs(self):
        return {pair for pair in combinations(self.states, 2) if self.is_blur(pair)}

    def following_blurs(self, pair):
        first, second = pair
        pairs = {tuple(sorted((one, other))) for one in self.after[first] for other in self.after[second]}
        return {later for later in pairs if self.is_blur(later)}

    def forks(self):
        return any(self.is_blur(pair) for state in self.states for pair in combinations(self.after[state], 2))

    def ticks(self):
        """The number of ticks, None if there is none, or 'LARGE' if there are more than 800 blurs."""
        left = self.blurs()
        if len(left) > 800:
            return "LARGE"
        if self.forks():
            return None
        length = 0
        while left:
            rest = {blur for blur in left if self.following_blurs(blur) & left}
            if rest == left:
                return None
            length, left = length + 1, rest
        return length

    def is_track(self, states):
        return all(later in self.after[state] for state, later in zip(states, states[1:]))

    def look_alike(self, one, other):
        return (self.is_track(one) and self.is_track(other)
                and [self.seen[state] for state in one] == [self.seen[state] for state in other])

    def shows_clears(self, ticks, ranks, one, other):
        if ticks < 0 or self.forks() or any(blur not in ranks for blur in self.blurs()):
            return False
        for pair, rank in ranks.items():
            if not 0 <= rank < ticks or not pair[0] < pair[1]:
                return False
            if any(later not in ranks or ranks[later] >= rank for later in self.following_blurs(pair)):
                return False
        if not self.look_alike(one, other) or len(one) != ticks:
            return False
        return all(first != second for first, second in zip(one, other))

    def shows_clouds(self, one, other, back):
        if not one or not self.look_alike(one, other) or one[-1] == other[-1]:
            return False
        if back is None:
            return one[0] == other[0]
        if back not in range(len(one) - 1):
            return False
        if any(one[at] == other[at] for at in range(back, len(one))):
            return False
        return one[back] == one[-1] and other[back] == other[-1]


def all_lamps(profiles):
    """All choices of lamps, the shorter ones first."""
    devices = range(len(profiles))
    return [lamps for many in range(len(profiles) + 1) for lamps in combinations(devices, many)]


def ordered_choices(profiles, prices):
    """All choices of lamps in the order of their prices."""
    return sorted(all_lamps(profiles), key=lambda lamps: (cost(prices, lamps), len(lamps), lamps))


def cost(prices, lamps):
    return sum(prices[device] for device in lamps)


# One to three devices; one tick and four; fewer devices at once than there are, as many, and more; houses that tell at
# once, later and never, the last ones among them six ticks later, or never although the runs that differ do not meet.
HOUSES = [
    (((1,),), 1),
    (((3, 1, 1, 2),), 1),
    (((2, 1),), 3),
    (((2, 1), (1, 2)), 2),
    (((2, 1), (1, 2)), 1),
    (((1, 2), (1, 3)), 1),
    (((1, 2), (1, 3)), 2),
    (((2,), (2,)), 2),
    (((2,), (2,)), 1),
    (((9, 9, 9, 9), (1,)), 3),
    (((1,), (2,), (3,)), 3),
    (((1,), (1, 2)), 2),
    (((1, 1), (1, 1, 1), (2,)), 1),
    (((1, 1, 1), (2, 1), (1, 2)), 2),
    (((1,), (1, 4), (4, 2)), 3),
    (((9,), (9, 1), (9, 9, 9)), 3),
    (((1, 1), (1, 3), (2, 1)), 2),
    (((1, 1), (2, 1), (2, 3)), 2),
    (((2,), (1, 4), (2, 1)), 3),
    (((1,), (2, 1, 4), (2,)), 2),
    (((1, 1), (2, 3), (2, 2, 1)), 2),
]

# What is not a House, whatever else it is.
NO_HOUSES = [None, 0, True, "house", b"", (), [], {}, ((1,),), (((1,),), 1), [(1,)], object()]

# What are no lamps of a house with two devices, whatever else it is.
NO_LAMPS = [None, 0, True, "", "0", b"", [], [0], {}, {0: True}, set(), range(1), object(), (2,), (-1,), (0, 2), (0, 0),
            (1, 0), (0, 1, 1), (0, 1, 2), (True,), (False,), (0, True), (False, 1), (None,), ("0",), ((0,),), ([],),
            (10 ** 30,)]


def refused(error, function, *arguments):
    """The error of exactly this class that the call raises."""
    try:
        function(*arguments)
    except error as caught:
        if type(caught) is not error:
            raise AssertionError(f"{type(caught).__name__} instead of {error.__name__}") from caught
        return caught
    raise AssertionError(f"{error.__name__} was not raised")
