"""What the document says of one house holds of related ones: points 3, 4, 5, 7, 8 and 9 over several houses.

The same house with its devices in another order, with greater watts, without a device, with fewer devices at once, and
with one lamp more. A house without a device, or with fewer devices at once, has some of the runs of the whole one, in
which the meter shows the same: what can always be told with the whole one can be told with it, and not later.
"""

import unittest
from itertools import permutations, product

from byhand import HOUSES, Table, all_lamps
from whatruns.clear import Clears, Clouds, clearing, does_clear, seen, ticks_to_clear
from whatruns.houses import House, reading, readings, starts, steps
from whatruns.known import Gemini, Known, delay, tell
from whatruns.lamps import Lamps, least_price, light
from whatruns.sessions import Watch
from whatruns.stories import NoStory, Story, facts, fewest_starts, find_story

NEVER = 10 ** 6


def or_never(number):
    """A number to compare with, where None stands for never."""
    return NEVER if number is None else number


def some_runs(profiles, most):
    """Some runs of the house, of up to eight states."""
    table, found = Table(profiles, most), []
    for pace in range(1, 5):
        run = []
        for at in range(8):
            after = table.after[run[-1] if run else table.idle]
            run.append(after[(pace * at + pace) % len(after)])
        found += [run, run[:pace]]
    return found


def with_lamps():
    return [(profiles, most, lamps) for profiles, most in HOUSES for lamps in all_lamps(profiles)]


class Order:
    """The devices of a house in another order: at each place, which device of the house stands there."""

    def __init__(self, devices):
        self.devices = devices

    def state(self, state):
        return tuple(state[device] for device in self.devices)

    def states(self, states):
        return [self.state(state) for state in states]

    def lamps(self, lamps):
        return tuple(sorted(self.devices.index(device) for device in lamps))

    def ranks(self, ranks):
        return {tuple(sorted(self.states(pair))): ranks[pair] for pair in ranks}

    def spot(self, spot):
        return (spot[0], self.state(spot[1]))

    def evidence(self, found):
        """What tell, clearing and find_story return, for the house in this order."""
        if isinstance(found, Known):
            return Known(found.delay, self.ranks(found.ranks), self.states(found.one), self.states(found.other))
        if isinstance(found, Clears):
            return Clears(found.ticks, self.ranks(found.ranks), self.states(found.one), self.states(found.other))
        if isinstance(found, Gemini):
            return Gemini(self.states(found.one), self.states(found.other), found.back)
        if isinstance(found, Clouds):
            return Clouds(self.states(found.one), self.states(found.other), found.back)
        if isinstance(found, Story):
            return Story(self.states(found.states), {self.spot(spot): found.floors[spot] for spot in found.floors})
        return NoStory([self.spot(spot) for spot in found.spots])


def reordered():
    """Houses with the same houses in other orders of their devices."""
    return [(House(profiles, most), House(order.state(profiles), most), order) for profiles, most in HOUSES
            for order in map(Order, permutations(range(len(profiles))))]


class TestAnotherOrder(unittest.TestCase):

    def test_states_and_runs(self):
        for house, other, order in reordered():
            for run in some_runs(tuple(house), house.most):
                with self.subTest(profiles=list(house), devices=order.devices, run=run):
                    moved = order.states(run)
                    self.assertEqual(readings(other, moved), readings(house, run))
                    self.assertEqual(starts(other, moved), starts(house, run))
                    self.assertEqual(reading(other, moved[-1]), reading(house, run[-1]))
                    self.assertEqual(steps(other, moved[-1]), sorted(order.states(steps(house, run[-1]))))

    def test_telling(self):
        for house, other, order in reordered():
            with self.subTest(profiles=list(house), devices=order.devices):
                self.assertEqual(delay(other), delay(house))
                self.assertIs(order.evidence(tell(house)).shows(other), True)

    def test_stories(self):
        for house, other, order in reordered():
            for run in some_runs(tuple(house), house.most):
                shown = readings(house, run)
                for given in (shown, shown[:-1] + [shown[-1] + 1]):
                    with self.subTest(profiles=list(house), devices=order.devices, shown=given):
                        self.assertEqual(fewest_starts(other, given), fewest_starts(house, given))
                        self.assertIs(order.evidence(find_story(house, given)).shows(other, given), True)
                        told = facts(house, given)
                        self.assertEqual(facts(other, given), None if told is None else order.states(told))

    def test_clearing(self):
        for house, other, order in reordered():
            for lamps in all_lamps(tuple(house)):
                moved = order.lamps(lamps)
                with self.subTest(profiles=list(house), devices=order.devices, lamps=lamps):
                    self.assertEqual(ticks_to_clear(other, moved), ticks_to_clear(house, lamps))
                    self.assertIs(order.evidence(clearing(house, lamps)).shows(other, moved), True)

    def test_the_cheapest_lamps(self):
        for house, other, order in reordered():
            prices = (3, 1, 2)[:len(house)]
            moved = order.state(prices)
            with self.subTest(profiles=list(house), devices=order.devices):
                self.assertEqual(least_price(other, moved), least_price(house, prices))
                found = light(house, prices)
                doubts = {order.lamps(some): order.evidence(doubt) for some, doubt in found}
                self.assertTrue(Lamps(order.lamps(found.lamps), order.evidence(found.clears),
                                      doubts).shows(other, moved))


class TestGreaterWatts(unittest.TestCase):
    """All watts as many times greater: the meter tells the same states apart."""

    def greater(self):
        for profiles, most in HOUSES:
            for times in range(2, 10):
                if max(map(max, profiles)) * times <= 9:
                    greater = tuple(tuple(watt * times for watt in profile) for profile in profiles)
                    yield House(profiles, most), House(greater, most), times

    def test_some_watts_can_be_greater(self):
        self.assertGreater(len(list(self.greater())), 40)

    def test_readings(self):
        for house, other, times in self.greater():
            for run in some_runs(tuple(house), house.most):
                with self.subTest(profiles=list(house), times=times, run=run):
                    self.assertEqual(readings(other, run), [watts * times for watts in readings(house, run)])
                    self.assertEqual(starts(other, run), starts(house, run))

    def test_telling(self):
        for house, other, times in self.greater():
            with self.subTest(profiles=list(house), times=times):
                self.assertEqual(delay(other), delay(house))
                self.assertTrue(tell(house).shows(other))
                self.assertTrue(tell(other).shows(house))

    def test_stories(self):
        for house, other, times in self.greater():
            for run in some_runs(tuple(house), house.most):
                shown = readings(house, run)
                more = [watts * times for watts in shown]
                with self.subTest(profiles=list(house), times=times, shown=shown):
                    self.assertEqual(fewest_starts(other, more), fewest_starts(house, shown))
                    self.assertEqual(facts(other, more), facts(house, shown))
                    self.assertTrue(find_story(house, shown).shows(other, more))
                    self.assertIsNone(fewest_starts(other, more[:-1] + [more[-1] + 1]))

    def test_clearing_and_lamps(self):
        for house, other, times in self.greater():
            prices = (2, 3, 1)[:len(house)]
            with self.subTest(profiles=list(house), times=times):
                self.assertEqual(least_price(other, prices), least_price(house, prices))
                self.assertTrue(light(house, prices).shows(other, prices))
                for lamps in all_lamps(tuple(house)):
                    self.assertEqual(ticks_to_clear(other, lamps), ticks_to_clear(house, lamps))
                    self.assertTrue(clearing(house, lamps).shows(other, lamps))


class TestSmallerHouses(unittest.TestCase):

    def check_no_later(self, smaller, house, back):
        """Each run of the smaller house is one of the whole one, back gives its states there."""
        self.assertLessEqual(or_never(delay(smaller)), or_never(delay(house)))
        for run in some_runs(tuple(smaller), smaller.most):
            whole, shown = [back(state) for state in run], readings(smaller, run)
            self.assertEqual(readings(house, whole), shown)
            self.assertEqual(starts(house, whole), starts(smaller, run))
            self.assertLessEqual(fewest_starts(house, shown), fewest_starts(smaller, shown))

    def smaller(self):
        """Houses without a device, with which one it is."""
        return [(House(profiles[:device] + profiles[device + 1:], most), House(profiles, most), device)
                for profiles, most in HOUSES for device in range(len(profiles)) if len(profiles) > 1]

    def fewer(self):
        return [(House(profiles, fewer), House(profiles, most)) for profiles, most in HOUSES
                for fewer in range(1, most)]

    def test_without_a_device(self):
        for smaller, house, device in self.smaller():
            with self.subTest(profiles=list(house), device=device):
                self.check_no_later(smaller, house, lambda state: state[:device] + (0,) + state[device:])

    def test_with_fewer_devices_at_once(self):
        for smaller, house in self.fewer():
            with self.subTest(profiles=list(house), most=smaller.most):
                self.check_no_later(smaller, house, lambda state: state)

    def test_more_at_once_than_devices_is_no_more(self):
        for profiles, most in HOUSES:
            if most >= len(profiles):
                for more in range(len(profiles), 4):
                    house, other = House(profiles, most), House(profiles, more)
                    with self.subTest(profiles=profiles, most=most, more=more):
                        self.assertEqual(delay(house), delay(other))
                        self.assertEqual([ticks_to_clear(house, lamps) for lamps in all_lamps(profiles)],
                                         [ticks_to_clear(other, lamps) for lamps in all_lamps(profiles)])

    def test_what_is_sure_stays_sure(self):
        for smaller, house in self.fewer():
            for run in some_runs(tuple(smaller), smaller.most):
                shown = readings(smaller, run)
                for told, then in zip(facts(house, shown), facts(smaller, shown)):
                    with self.subTest(profiles=list(house), most=smaller.most, shown=shown):
                        self.assertTrue(all(fact is None or fact is still for fact, still in zip(told, then)))

    def test_clearing_without_a_device(self):
        for smaller, house, device in self.smaller():
            for lamps in all_lamps(tuple(house)):
                left = tuple(lamp - (lamp > device) for lamp in lamps if lamp != device)
                with self.subTest(profiles=list(house), device=device, lamps=lamps):
                    self.assertLessEqual(or_never(ticks_to_clear(smaller, left)),
                                         or_never(ticks_to_clear(house, lamps)))

    def test_clearing_with_fewer_devices_at_once(self):
        for smaller, house in self.fewer():
            for lamps in all_lamps(tuple(house)):
                with self.subTest(profiles=list(house), most=smaller.most, lamps=lamps):
                    self.assertLessEqual(or_never(ticks_to_clear(smaller, lamps)),
                                         or_never(ticks_to_clear(house, lamps)))

    def test_the_cheapest_lamps(self):
        for prices in [(1, 1, 1), (3, 1, 2), (1, 9, 4)]:
            for smaller, house, device in self.smaller():
                given = prices[:len(house)]
                with self.subTest(profiles=list(house), device=device, prices=given):
                    self.assertLessEqual(least_price(smaller, given[:device] + given[device + 1:]),
                                         least_price(house, given))
            for smaller, house in self.fewer():
                given = prices[:len(house)]
                with self.subTest(profiles=list(house), most=smaller.most, prices=given):
                    self.assertLessEqual(least_price(smaller, given), least_price(house, given))


class TestOneLampMore(unittest.TestCase):

    def one_more(self):
        return [(House(profiles, most), lamps, tuple(sorted(lamps + (device,)))) for profiles, most, lamps
                in with_lamps() for device in range(len(profiles)) if device not in lamps]

    def test_it_clears_no_later(self):
        for house, lamps, more in self.one_more():
            with self.subTest(profiles=list(house), most=house.most, lamps=lamps, more=more):
                self.assertLessEqual(or_never(ticks_to_clear(house, more)), or_never(ticks_to_clear(house, lamps)))
                self.assertTrue(does_clear(house, more) or not does_clear(house, lamps))

    def test_what_is_alike_with_more_lamps_is_alike_with_fewer(self):
        for house, lamps, more in self.one_more():
            found = clearing(house, more)
            if isinstance(found, Clouds):
                with self.subTest(profiles=list(house), most=house.most, lamps=lamps, more=more):
                    self.assertTrue(found.shows(house, lamps))

    def test_the_more_is_seen_the_fewer_states_are_possible(self):
        for house, lamps, more in self.one_more():
            for run, idle in product(some_runs(tuple(house), house.most)[:4], (True, False)):
                watch, other = Watch(house, lamps, idle=idle), Watch(house, more, idle=idle)
                for state in run:
                    watch.see(seen(house, lamps, state))
                    other.see(seen(house, more, state))
                    with self.subTest(profiles=list(house), lamps=lamps, more=more, run=run):
                        self.assertTrue(set(other) <= set(watch))
                        self.assertIn(state, list(other))

    def test_a_price_more_changes_the_least_price_by_one_at_most(self):
        for profiles, most in HOUSES:
            prices = (3, 1, 2)[:len(profiles)]
            least = least_price(House(profiles, most), prices)
            for device in range(len(profiles)):
                dearer = prices[:device] + (prices[device] + 1,) + prices[device + 1:]
                with self.subTest(profiles=profiles, most=most, dearer=dearer):
                    self.assertIn(least_price(House(profiles, most), dearer), (least, least + 1))


class TestWatchingAndTheOtherAnswers(unittest.TestCase):

    def test_a_watch_from_all_states_knows_after_so_many_ticks(self):
        for profiles, most, lamps in with_lamps():
            house = House(profiles, most)
            ticks = ticks_to_clear(house, lamps)
            if ticks is None:
                continue
            longest = 0
            for first in Table(profiles, most).states:
                watch, state, at = Watch(house, lamps, idle=False), first, 0
                # The first of the states of a track is seen, too: a track of so many states is not enough.
                while at == 0 or len(list(watch)) > 1 and at <= ticks + 1:
                    after = steps(house, state)
                    state, at = after[(at + sum(first)) % len(after)], at + 1
                    watch.see(seen(house, lamps, state))
                longest = max(longest, at)
            with self.subTest(profiles=profiles, most=most, lamps=lamps):
                self.assertLessEqual(longest, ticks + 1)

    def test_a_watch_from_the_idle_state_knows_no_less_than_facts_about_the_last_tick(self):
        for profiles, most in HOUSES:
            house = House(profiles, most)
            for run in some_runs(profiles, most):
                watch = Watch(house, ())
                for watts in readings(house, run):
                    watch.see((watts, ()))
                with self.subTest(profiles=profiles, most=most, run=run):
                    self.assertEqual(watch.sure(), facts(house, readings(house, run))[-1])

    def test_the_watch_follows_both_tracks_of_clouds(self):
        for profiles, most, lamps in with_lamps():
            house = House(profiles, most)
            found = clearing(house, lamps)
            watch = Watch(house, lamps, idle=False)
            if isinstance(found, Clears) or found.back is None:
                continue
            pairs = list(zip(found.one, found.other))
            for one, other in pairs[1:] + pairs[found.back + 1:] * 2:
                watch.see(seen(house, lamps, one))
                with self.subTest(profiles=profiles, most=most, lamps=lamps, one=one, other=other):
                    self.assertTrue({one, other} <= set(watch))


if __name__ == "__main__":
    unittest.main()
