"""Watching a house tick by tick: which states are possible after what was seen."""

from whatruns.errors import BadSeen, NothingDone
from whatruns.houses import check_house, every_state, facts_of, is_whole, next_states, running
from whatruns.views import check_lamps, view_of

MOST_TRIED = 20


class Past:
    """What was seen so far, what was possible before each tick of it, and what is possible now."""

    def __init__(self, possible, views, before, least):
        self.possible = possible
        self.views = list(views)
        self.before = list(before)
        # So many ticks cannot be undone: those before the trial.
        self.least = least

    def again(self, least):
        """The same, on its own, with so many ticks that cannot be undone."""
        return Past(self.possible, self.views, self.before, least)


class Trial:
    """A with-block at whose end a watch is as at its beginning."""

    def __init__(self, watch):
        self._watch = watch
        self._past = None

    def __enter__(self):
        watch = self._watch
        self._past = watch._past
        watch._past = self._past.again(len(watch))
        return watch

    def __exit__(self, kind, value, trace):
        watch = self._watch
        watch._past = self._past


class Watch:
    """A house with lamps, the states that are possible now, and a journal of what was seen."""

    def __init__(self, house, lamps, *, idle=True):
        check_house(house)
        check_lamps(house, lamps)
        self._house = house
        self._lamps = lamps
        self._past = Past([house.idle()] if idle else every_state(house), [], [], 0)

    @property
    def journal(self):
        """The list of what was seen, tick by tick."""
        return list(self._past.views)

    def __len__(self):
        return len(self._past.views)

    def __iter__(self):
        return iter(self._past.possible)

    def see(self, view):
        """Note what is seen at the next tick; how many states are possible then."""
        past = self._past
        possible = self._then(past.possible, view)
        if not possible:
            raise BadSeen(None)
        past.views.append(view)
        past.before.append(past.possible)
        past.possible = possible
        return len(possible)

    def _then(self, possible, view):
        """The states, ascending, that are possible when this is seen after one of the possible ones."""
        if not _is_view(view):
            return []
        later = {after: True for state in possible for after in next_states(self._house, state)}
        return [state for state in sorted(later) if view_of(self._house, self._lamps, state) == view]

    def sure(self):
        """For each device, whether it runs in all possible states (True), in none (False), or neither (None)."""
        return facts_of(self._house, self._past.possible)

    def most_running(self):
        """The greatest number of devices that run in one of the possible states."""
        return max([running(state) for state in self._past.possible])

    def undo(self):
        """Take back the last tick; what was seen then."""
        past = self._past
        if len(past.views) <= past.least:
            raise NothingDone("there is no tick that can be undone")
        past.possible = past.before.pop()
        return past.views.pop()

    def branch(self):
        """An independent Watch that has seen the same."""
        found = Watch(self._house, self._lamps)
        found._past = self._past.again(0)
        return found

    def trial(self):
        """A with-block at whose end everything is as at its beginning."""
        return Trial(self)

    def tried(self, views):
        """How many states would be possible after each of these views, one after the other."""
        if not isinstance(views, (list, tuple)) or len(views) > MOST_TRIED:
            raise BadSeen(None)
        possible = self._past.possible
        counts = []
        for index, view in enumerate(views):
            possible = self._then(possible, view)
            if not possible:
                raise BadSeen(index)
            counts.append(len(possible))
        return counts


def _is_view(view):
    """Whether this is a pair of an integer and of booleans. What is equal to such a pair need not be one."""
    if not isinstance(view, tuple) or len(view) != 2:
        return False
    total, runs = view
    return is_whole(total) and isinstance(runs, tuple) and all([isinstance(run, bool) for run in runs])
