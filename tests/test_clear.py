"""What is seen with lamps, and whether it is known at last what runs: points 1, 6 and 7."""

import unittest
from itertools import combinations
from unittest import mock

from byhand import HOUSES, NO_HOUSES, NO_LAMPS, Lit, all_lamps, refused
from whatruns import clear
from whatruns.clear import Clears, Clouds, clearing, does_clear, seen, ticks_to_clear
from whatruns.errors import BadHouse, BadLamps, BadState, TooLarge
from whatruns.houses import House
from whatruns.known import Gemini, Known
from whatruns.stories import NoStory

SLOW = (((1, 1),), 1)
LATER = (((1, 1, 1),), 2)
ALIKE = (((2,), (2,)), 2)
ROUND = (((3, 2), (1, 3)), 2)
# Two of its blurs follow one another, but the tracks are back where they were only after the second time round.
SWAPPING = (((2, 1, 2), (1,)), 2)
# Of the tracks that are found, the first states do not come again.
GOING_IN = (((2, 1, 1), (1, 2, 1)), 2)
# The states of one of its blurs are followed by those of another one with the greater one first.
TURNING = (((1, 1), (2, 1, 2)), 1)

# Just as many blurs as the limit allows, and just one more.
AT_LIMIT = (((1, 1, 1), (1, 1, 1, 4), (1, 1, 2, 3)), 3)
ABOVE_LIMIT = (((1, 1, 1), (2, 2, 2, 4), (2, 2, 2, 5)), 3)

LIT_HOUSES = [(profiles, most, lamps) for profiles, most in HOUSES + [LATER, ROUND, SWAPPING, GOING_IN, TURNING]
              for lamps in all_lamps(profiles)]


class TestSeen(unittest.TestCase):

    def test_the_meter_and_the_lamps_in_order(self):
        house = House(((1, 2, 3, 4), (5,), (6, 7)), 3)
        for lamps, state, view in [((), (3, 0, 2), (10, ())),
                                   ((0,), (3, 0, 2), (10, (True,))),
                                   ((1,), (3, 0, 2), (10, (False,))),
                                   ((0, 1), (3, 0, 2), (10, (True, False))),
                                   ((1, 2), (0, 1, 0), (5, (True, False))),
                                   ((0, 2), (0, 1, 2), (12, (False, True))),
                                   ((0, 1, 2), (0, 0, 0), (0, (False, False, False))),
                                   ((0, 1, 2), (4, 1, 1), (15, (True, True, True)))]:
            with self.subTest(lamps=lamps, state=state):
                self.assertEqual(seen(house, lamps, state), view)

    def test_it_is_a_pair_of_an_integer_and_a_tuple_of_booleans(self):
        for profiles, most, lamps in LIT_HOUSES:
            house, table = House(profiles, most), Lit(profiles, most, lamps)
            for state in table.states:
                with self.subTest(profiles=profiles, most=most, lamps=lamps, state=state):
                    view = seen(house, lamps, state)
                    self.assertEqual(view, table.seen[state])
                    self.assertEqual([type(view), type(view[0]), type(view[1])], [tuple, int, tuple])
                    self.assertTrue(all(type(run) is bool for run in view[1]))

    def test_what_is_no_state(self):
        house = House(((2, 1), (1, 2, 3)), 1)
        for state in [None, 0, True, "00", [0, 0], {}, (), (0,), (0, 0, 0), (-1, 0), (3, 0), (0, 4), (1, 1), (True, 0),
                      (0, False), ("0", 0), ((0,), 0), ([], 0), house, object()]:
            for lamps in [(), (0,), (0, 1)]:
                with self.subTest(state=state, lamps=lamps):
                    refused(BadState, seen, house, lamps, state)

    def test_which_error_comes_first(self):
        house = House(*ALIKE)
        for no_house in NO_HOUSES:
            for lamps, state in [((), (0, 0)), ((2,), (0, 0)), ((), None), (None, None)]:
                self.assertIsNone(refused(BadHouse, seen, no_house, lamps, state).part)
        for lamps in NO_LAMPS:
            for state in [(0, 0), (1, 1), None, (True, 0)]:
                with self.subTest(lamps=lamps, state=state):
                    refused(BadLamps, seen, house, lamps, state)


class TestClearing(unittest.TestCase):

    def test_the_example(self):
        slow, like = House(((1, 1),), 1), House(((2,), (2,)), 2)
        shown = [Clears(1, {((1,), (2,)): 0}, [(1,)], [(2,)]).shows(slow, ()), Clears(0, {}, [], []).shows(slow, ()),
                 Clouds([(0, 0), (0, 1)], [(0, 0), (1, 0)], None).shows(like, ())]
        found = [ticks_to_clear(slow, ()), [does_clear(like, lamps) for lamps in ((), (0,))], shown,
                 seen(like, (1,), (0, 1)), clearing(like, ()).shows(like, ())]
        self.assertEqual(found, [1, [False, True], [True, False, True], (2, (True,)), True])

    def test_some_houses_with_all_lamps_against_what_is_worked_out_by_hand(self):
        kinds = {}
        for profiles, most, lamps in LIT_HOUSES:
            with self.subTest(profiles=profiles, most=most, lamps=lamps):
                house, table = House(profiles, most), Lit(profiles, most, lamps)
                found, ticks = clearing(house, lamps), table.ticks()
                self.assertEqual(ticks_to_clear(house, lamps), ticks)
                self.assertIs(does_clear(house, lamps), ticks is not None)
                if ticks is None:
                    self.assertIs(type(found), Clouds)
                    self.assertTrue(table.shows_clouds(found.one, found.other, found.back))
                    kinds["forks" if found.back is None else "goes round"] = True
                else:
                    self.assertIs(type(found), Clears)
                    self.assertEqual(found.ticks, ticks)
                    self.assertTrue(table.shows_clears(found.ticks, found.ranks, found.one, found.other))
                    kinds[ticks] = True
                self.assertIs(found.shows(house, lamps), True)
        self.assertEqual({str(kind) for kind in kinds}, {"forks", "goes round", "0", "1", "2", "3"})

    def test_all_houses_with_two_small_devices(self):
        profiles = [(1,), (2,), (1, 1), (1, 2), (2, 1), (1, 2, 1), (2, 1, 2), (1, 1, 3)]
        for first in profiles:
            for second in profiles:
                for most in (1, 2):
                    for lamps in [(), (0,), (1,), (0, 1)]:
                        with self.subTest(first=first, second=second, most=most, lamps=lamps):
                            house = House((first, second), most)
                            self.assertEqual(ticks_to_clear(house, lamps), Lit((first, second), most, lamps).ticks())
                            self.assertTrue(clearing(house, lamps).shows(house, lamps))

    def test_one_device_clears_when_equal_ticks_are_over(self):
        for profile, ticks in [((1,), 0), ((1, 2, 3, 4), 0), ((1, 1), 1), ((1, 2, 1), 1), ((1, 1, 1), 2),
                               ((1, 1, 1, 1), 3), ((1, 1, 2, 2), 1), ((1, 2, 1, 2), 2), ((1, 2, 2, 1), 1)]:
            for lamps in [(), (0,)]:
                with self.subTest(profile=profile, lamps=lamps):
                    self.assertEqual(ticks_to_clear(House((profile,), 1), lamps), ticks)

    def test_with_lamps_for_all_devices_it_always_clears(self):
        for profiles, most in HOUSES:
            with self.subTest(profiles=profiles, most=most):
                self.assertIs(does_clear(House(profiles, most), tuple(range(len(profiles)))), True)

    def test_clouds_that_fork_and_clouds_that_go_round(self):
        fork = clearing(House(*ALIKE), ())
        self.assertIsNone(fork.back)
        self.assertEqual(fork.one[0], fork.other[0])
        for profiles, most in (ROUND, SWAPPING):
            with self.subTest(profiles=profiles):
                self.assertFalse(Lit(profiles, most, ()).forks())
                self.assertIs(type(clearing(House(profiles, most), ()).back), int)
                self.assertIs(does_clear(House(profiles, most), ()), False)
                self.assertIsNone(ticks_to_clear(House(profiles, most), ()))

    def test_tracks_that_go_round_only_later(self):
        house = House(*GOING_IN)
        found = clearing(house, ())
        self.assertEqual((found.back, len(found.one), found.shows(house, ())), (2, 7, True))
        for back in (None, 0, 1, 3, 4, 5, 6):
            with self.subTest(back=back):
                self.assertFalse(Clouds(found.one, found.other, back).shows(house, ()))

    def test_what_ran_at_first_is_not_known(self):
        # After the idle state, the totals tell at once what has run; from elsewhere on, they never do.
        house = House(*ROUND)
        self.assertIsNone(ticks_to_clear(house, ()))
        self.assertEqual(ticks_to_clear(house, (0,)), 1)

    def test_every_answer_is_new(self):
        for profiles, most in (LATER, ALIKE, ROUND):
            house = House(profiles, most)
            found = clearing(house, ())
            found.one.clear()
            found.other.clear()
            self.assertTrue(clearing(house, ()).shows(house, ()))
            self.assertFalse(clearing(house, ()) == found)

    def test_which_error_comes_first(self):
        calls = [clearing, does_clear, ticks_to_clear, Clears(0, {}, [], []).shows, Clouds([], [], None).shows]
        for function in calls:
            for no_house in NO_HOUSES:
                for lamps in [(), (9,), None]:
                    with self.subTest(function=function.__qualname__, house=no_house, lamps=lamps):
                        self.assertIsNone(refused(BadHouse, function, no_house, lamps).part)
            for lamps in NO_LAMPS:
                with self.subTest(function=function.__qualname__, lamps=lamps):
                    refused(BadLamps, function, House(*ALIKE), lamps)
                    refused(BadLamps, function, House(((1,) * 4, (1,) * 4), 2), lamps)

    def test_lamps_come_before_too_many_blurs(self):
        for lamps in [(3,), (1, 0), (True,), [0], None]:
            for function in (clearing, does_clear, ticks_to_clear):
                with self.subTest(lamps=lamps, function=function.__name__):
                    refused(BadLamps, function, House(*ABOVE_LIMIT), lamps)


class TestTooLarge(unittest.TestCase):

    def test_it_is_800(self):
        self.assertEqual(clear.MOST_BLURS, 800)

    def test_houses_at_and_above_the_limit(self):
        self.assertEqual(len(Lit(*AT_LIMIT, ()).blurs()), 800)
        self.assertEqual(len(Lit(*ABOVE_LIMIT, ()).blurs()), 801)
        self.assertTrue(clearing(House(*AT_LIMIT), ()).shows(House(*AT_LIMIT), ()))
        self.assertIs(does_clear(House(*AT_LIMIT), ()), Lit(*AT_LIMIT, ()).ticks() is not None)
        self.assertEqual(ticks_to_clear(House(*AT_LIMIT), ()), Lit(*AT_LIMIT, ()).ticks())
        for function in (clearing, does_clear, ticks_to_clear):
            with self.subTest(function=function.__name__):
                refused(TooLarge, function, House(*ABOVE_LIMIT), ())

    def test_lamps_make_blurs_fewer(self):
        for lamps in all_lamps(ABOVE_LIMIT[0])[1:]:
            with self.subTest(lamps=lamps):
                self.assertEqual(ticks_to_clear(House(*ABOVE_LIMIT), lamps), Lit(*ABOVE_LIMIT, lamps).ticks())

    def test_there_can_be_too_many_with_lamps_for_all_devices(self):
        alike = House(((1, 1, 1, 1),) * 3, 3)
        for lamps in all_lamps(tuple(alike)):
            with self.subTest(lamps=lamps):
                refused(TooLarge, clearing, alike, lamps)

    def test_just_so_many_blurs_are_allowed(self):
        for profiles, most, lamps in LIT_HOUSES:
            house, many = House(profiles, most), len(Lit(profiles, most, lamps).blurs())
            with self.subTest(profiles=profiles, most=most, lamps=lamps, many=many):
                with mock.patch.object(clear, "MOST_BLURS", many):
                    self.assertTrue(clearing(house, lamps).shows(house, lamps))
                with mock.patch.object(clear, "MOST_BLURS", many - 1):
                    refused(TooLarge, clearing, house, lamps)

    def test_shows_knows_no_limit(self):
        alike = House(((1, 1, 1, 1),) * 3, 3)
        self.assertTrue(Clouds([(0, 0, 0), (0, 0, 1)], [(0, 0, 0), (0, 1, 0)], None).shows(alike, ()))
        self.assertFalse(Clouds([(0, 0, 0), (0, 0, 1)], [(0, 0, 0), (0, 1, 0)], None).shows(alike, (1,)))
        self.assertFalse(Clears(1, {}, [(0, 0, 1)], [(0, 1, 0)]).shows(alike, ()))
        with mock.patch.object(clear, "MOST_BLURS", 10 ** 6):
            found = clearing(alike, (0, 1, 2))
        self.assertEqual(found.ticks, 3)
        self.assertTrue(found.shows(alike, (0, 1, 2)))


class TestClears(unittest.TestCase):

    def test_attributes_are_copies(self):
        ranks, one, other = {((1,), (2,)): 0}, [(1,)], [(2,)]
        found = Clears(1, ranks, one, other)
        self.assertEqual((found.ticks, found.ranks, found.one, found.other), (1, ranks, one, other))
        ranks.clear()
        one.clear()
        other.append((0,))
        self.assertEqual((found.ticks, found.ranks, found.one, found.other), (1, {((1,), (2,)): 0}, [(1,)], [(2,)]))
        found.ranks.clear()
        found.other.clear()
        found.one.append((2,))
        self.assertEqual((ranks, one, other), ({}, [], [(2,), (0,)]))

    def test_equality(self):
        ranks = {((1,), (2,)): 1, ((2,), (3,)): 0}
        found = Clears(2, ranks, [(1,), (2,)], [(2,), (3,)])
        same = Clears(2, {((2,), (3,)): 0, ((1,), (2,)): 1}, [(1,), (2,)], [(2,), (3,)])
        self.assertTrue(found == same)
        self.assertFalse(found != same)
        for changed in [Clears(3, ranks, [(1,), (2,)], [(2,), (3,)]), Clears(2, {}, [(1,), (2,)], [(2,), (3,)]),
                        Clears(2, {((1,), (2,)): 1, ((2,), (3,)): 1}, [(1,), (2,)], [(2,), (3,)]),
                        Clears(2, ranks, [(1,)], [(2,), (3,)]), Clears(2, ranks, [(1,), (2,)], [(2,), (2,)]),
                        Clears(2, ranks, [(2,), (3,)], [(1,), (2,)]), Known(2, ranks, [(1,), (2,)], [(2,), (3,)]),
                        Clouds([(1,), (2,)], [(2,), (3,)], None), House(*SLOW), NoStory([])]:
            with self.subTest(changed=type(changed).__name__):
                self.assertFalse(found == changed)
                self.assertTrue(found != changed)
                self.assertFalse(changed == found)
                self.assertTrue(changed != found)

    def test_the_current_attributes_count(self):
        house = House(*LATER)
        found = Clears(0, {}, [], [])
        self.assertIs(found.shows(house, ()), False)
        found.ticks = 2
        found.ranks.update({((1,), (2,)): 1, ((2,), (3,)): 0, ((1,), (3,)): 0})
        found.one.extend([(1,), (2,)])
        self.assertIs(found.shows(house, ()), False)
        found.other = [(2,), (3,)]
        self.assertIs(found.shows(house, ()), True)
        found.ticks = 3
        self.assertIs(found.shows(house, ()), False)

    def check(self, house, table, ticks, ranks, one, other):
        with self.subTest(profiles=table.profiles, most=table.most, lamps=table.lamps, ticks=ticks, ranks=ranks,
                          one=one, other=other):
            self.assertIs(Clears(ticks, ranks, one, other).shows(house, table.lamps),
                          table.shows_clears(ticks, ranks, one, other))

    def test_all_small_changes_of_ticks_ranks_and_tracks(self):
        for profiles, most, lamps in LIT_HOUSES:
            house, table = House(profiles, most), Lit(profiles, most, lamps)
            found = clearing(house, lamps)
            if isinstance(found, Clouds):
                continue
            ticks, ranks, one, other = found.ticks, found.ranks, found.one, found.other
            changed = [{pair: ranks[pair] for pair in ranks if pair != left} for left in ranks]
            changed += [ranks | {pair: ranks[pair] + by} for pair in ranks for by in (-1, 1)]
            for given in changed:
                self.check(house, table, ticks, given, one, other)
            for by in (-2, -1, 1):
                self.check(house, table, ticks + by, ranks, one, other)
            for at in range(ticks):
                self.check(house, table, ticks, ranks, one[:at], other[:at])
                self.check(house, table, ticks, ranks, one[:at], other)
                for state in table.states[::3]:
                    self.check(house, table, ticks, ranks, one[:at] + [state] + one[at + 1:], other)
            self.check(house, table, ticks, ranks, other, one)

    def test_ranks_of_pairs_that_are_no_blurs(self):
        for profiles, most, lamps in LIT_HOUSES:
            house, table = House(profiles, most), Lit(profiles, most, lamps)
            found = clearing(house, lamps)
            if isinstance(found, Clouds):
                continue
            pairs = [pair for pair in combinations(table.states, 2) if pair not in found.ranks]
            for pair in pairs[::7]:
                for rank in range(-1, found.ticks + 1):
                    self.check(house, table, found.ticks, found.ranks | {pair: rank}, found.one, found.other)

    def test_a_pair_that_is_no_blur_can_have_a_rank(self):
        house, ranks = House(*LATER), {((1,), (2,)): 1, ((2,), (3,)): 0, ((1,), (3,)): 0}
        one, other = [(1,), (2,)], [(2,), (3,)]
        self.assertTrue(Clears(2, ranks, one, other).shows(house, ()))
        # The idle state and the last tick are followed by no blur, but the idle state and the second one are.
        self.assertTrue(Clears(2, ranks | {((0,), (3,)): 0}, one, other).shows(house, ()))
        self.assertTrue(Clears(2, ranks | {((0,), (2,)): 1}, one, other).shows(house, ()))
        self.assertFalse(Clears(2, ranks | {((0,), (2,)): 0}, one, other).shows(house, ()))
        self.assertFalse(Clears(2, ranks | {((0,), (3,)): 2}, one, other).shows(house, ()))

    def test_a_blur_that_follows_with_its_states_the_other_way_round(self):
        house = House(*TURNING)
        ranks = {((0, 1), (0, 3)): 1, ((0, 2), (1, 0)): 0, ((0, 2), (2, 0)): 2, ((1, 0), (2, 0)): 0}
        one, other = [(0, 2), (0, 3), (1, 0)], [(2, 0), (0, 1), (0, 2)]
        self.assertTrue(Clears(3, ranks, one, other).shows(house, ()))
        # After (0, 2) comes (0, 3), and after (2, 0) comes (0, 1), the lesser one.
        for rank in (0, 1):
            with self.subTest(rank=rank):
                self.assertFalse(Clears(3, ranks | {((0, 2), (2, 0)): rank}, one, other).shows(house, ()))

    def test_keys_that_are_no_pairs_of_states_and_values_that_are_no_ranks(self):
        house, ranks, one, other = House(*SLOW), {((1,), (2,)): 0}, [(1,)], [(2,)]
        self.assertTrue(Clears(1, ranks, one, other).shows(house, ()))
        for pair in [((2,), (1,)), ((1,), (1,)), ((0,), (3,)), ((0,), (1,), (2,)), ((0,),), (0, 1), None, 5,
                     ((0,), (True,)), ((False,), (1,)), ((0, 0), (1, 0))]:
            with self.subTest(pair=pair):
                self.assertFalse(Clears(1, ranks | {pair: 0}, one, other).shows(house, ()))
        self.assertTrue(Clears(1, ranks | {((0,), (2,)): 0}, one, other).shows(house, ()))
        for rank in (False, None, "0", -1, 1):
            with self.subTest(rank=rank):
                self.assertFalse(Clears(1, ranks | {((0,), (2,)): rank}, one, other).shows(house, ()))
        for ticks in (True, None, "1", -1, 0, 2, 10 ** 30):
            with self.subTest(ticks=ticks):
                self.assertFalse(Clears(ticks, ranks, one, other).shows(house, ()))

    def test_the_lamps_are_those_that_are_given(self):
        house = House(((1,), (1, 2)), 2)
        with_first, with_second = clearing(house, (0,)), clearing(house, (1,))
        self.assertEqual((with_first.ticks, with_second.ticks), (0, 1))
        self.assertTrue(with_first.shows(house, (0, 1)))
        for found, lamps in [(with_first, (1,)), (with_second, (0,)), (with_second, (0, 1)), (with_first, ()),
                             (with_second, ())]:
            with self.subTest(lamps=lamps):
                self.assertFalse(found.shows(house, lamps))

    def test_no_clears_where_tracks_fork(self):
        # The ranks and the tracks are as they must be, but two states can come next after the idle one.
        ranks = {((0, 1), (1, 0)): 0}
        self.assertFalse(Lit(((1, 2), (1, 3)), 1, ()).following_blurs(((0, 1), (1, 0))))
        self.assertFalse(Clears(1, ranks, [(0, 1)], [(1, 0)]).shows(House(((1, 2), (1, 3)), 1), ()))
        self.assertTrue(Clears(1, {((1,), (2,)): 0}, [(1,)], [(2,)]).shows(House(*SLOW), ()))
        house = House(*ALIKE)
        self.assertFalse(Clears(1, ranks, [(0, 1)], [(1, 0)]).shows(house, ()))
        self.assertFalse(Clears(0, {}, [], []).shows(house, ()))
        self.assertTrue(Clears(0, {}, [], []).shows(house, (1,)))

    def test_no_clears_of_another_house(self):
        found = clearing(House(*LATER), ())
        for profiles, most in HOUSES:
            with self.subTest(profiles=profiles, most=most):
                self.assertIs(found.shows(House(profiles, most), ()), False)

    def test_tracks_may_begin_anywhere_and_are_as_long_as_the_ticks(self):
        house, ranks = House(*LATER), {((1,), (2,)): 1, ((2,), (3,)): 0, ((1,), (3,)): 0}
        self.assertTrue(Clears(2, ranks, [(2,), (3,)], [(1,), (2,)]).shows(house, ()))
        for one, other in [([], []), ([(1,)], [(2,)]), ([(0,), (1,), (2,)], [(0,), (2,), (3,)]),
                           ([(1,), (2,), (3,)], [(2,), (3,), (0,)]), ([(1,), (2,)], [(1,), (2,)]),
                           ([(0,), (1,)], [(3,), (0,)]), ([(1,), (3,)], [(2,), (3,)]), ([(1,), (3,)], [(2,), (1,)]),
                           ([(1,), (2,)], [(2,)]), ([(1,), (True,)], [(2,), (3,)]), ([(1,), None], [(2,), (3,)]),
                           ([(1,), (2,)], [(2,), (3, 0)]), ([(1,), (2,)], [(2,), (4,)])]:
            with self.subTest(one=one, other=other):
                self.assertFalse(Clears(2, ranks, one, other).shows(house, ()))


class TestClouds(unittest.TestCase):

    def test_attributes_are_copies(self):
        one, other = [(0, 0), (0, 1)], [(0, 0), (1, 0)]
        for back in (None, 0):
            found = Clouds(one, other, back)
            self.assertEqual((found.one, found.other, found.back), ([(0, 0), (0, 1)], [(0, 0), (1, 0)], back))
            found.one.clear()
            found.other.pop()
        self.assertEqual((one, other), ([(0, 0), (0, 1)], [(0, 0), (1, 0)]))
        found = Clouds(one, other, None)
        one.clear()
        other.clear()
        self.assertTrue(found.shows(House(*ALIKE), ()))

    def test_equality(self):
        one, other = [(0, 0), (0, 1)], [(0, 0), (1, 0)]
        found = Clouds(one, other, 1)
        self.assertTrue(found == Clouds(one, other, 1))
        self.assertFalse(found != Clouds(one, other, 1))
        for changed in [Clouds(one, other, None), Clouds(one, other, 0), Clouds(other, one, 1),
                        Clouds(one[:1], other, 1), Clouds(one, other[1:], 1), Gemini(one, other, 1),
                        Clears(1, {}, one, other), House(*ALIKE)]:
            with self.subTest(changed=type(changed).__name__):
                self.assertFalse(found == changed)
                self.assertTrue(found != changed)
                self.assertFalse(changed == found)
                self.assertTrue(changed != found)

    def test_the_current_attributes_count(self):
        house = House(*ALIKE)
        found = Clouds([], [], None)
        self.assertIs(found.shows(house, ()), False)
        found.one.extend([(0, 0), (0, 1)])
        found.other = [(0, 0), (1, 0)]
        self.assertIs(found.shows(house, ()), True)
        found.back = 0
        self.assertIs(found.shows(house, ()), False)

    def test_tracks_that_fork(self):
        house = House(*ALIKE)
        for one, other in [([(0, 0), (0, 1)], [(0, 0), (1, 0)]), ([(1, 1), (0, 0), (1, 0)], [(1, 1), (0, 0), (0, 1)]),
                           ([(0, 1), (0, 0), (1, 0)], [(0, 1), (0, 0), (0, 1)]),
                           ([(0, 0), (0, 1), (1, 0)], [(0, 0), (1, 0), (0, 1)])]:
            with self.subTest(one=one, other=other):
                self.assertTrue(Clouds(one, other, None).shows(house, ()))
                self.assertTrue(Clouds(other, one, None).shows(house, ()))
                self.assertFalse(Clouds(one, other, None).shows(house, (0,)))
                self.assertFalse(Clouds(one, other, None).shows(house, (0, 1)))
        for one, other in [([], []), ([(0, 0)], [(0, 0)]), ([(0, 1)], [(1, 0)]), ([(0, 0), (0, 1)], [(0, 0), (0, 1)]),
                           ([(0, 1), (1, 0)], [(1, 0), (0, 1)]), ([(0, 0), (0, 1)], [(0, 0), (1, 1)]),
                           ([(0, 0), (0, 1)], [(0, 0)]), ([(0, 0), (0, 1), (0, 0)], [(0, 0), (1, 0), (0, 0)]),
                           ([(1, 1), (0, 1)], [(1, 1), (1, 0)]), ([(0, 0), (0, 1)], [(0, 0), (True, 0)]),
                           ([(0, 0), (0, 1)], [(0, 0), None]), ([(0, 0), (0, 1)], [(0, 0), (1, 0, 0)]),
                           ([(0, 0), (0, 1), (1, 0)], [(0, 0), (1, 0)])]:
            with self.subTest(one=one, other=other):
                self.assertFalse(Clouds(one, other, None).shows(house, ()))

    def test_tracks_that_go_round(self):
        house = House(*ROUND)
        one, other = [(0, 2), (1, 0), (2, 1), (0, 2)], [(1, 0), (2, 1), (0, 2), (1, 0)]
        for back in [None] + list(range(-5, 6)):
            with self.subTest(back=back):
                self.assertIs(Clouds(one, other, back).shows(house, ()), back == 0)
                self.assertIs(Clouds(other, one, back).shows(house, ()), back == 0)
        for back in (False, "0", (0,)):
            with self.subTest(back=back):
                self.assertFalse(Clouds(one, other, back).shows(house, ()))
        self.assertFalse(Clouds(one[:-1], other[:-1], 0).shows(house, ()))
        self.assertFalse(Clouds(one, one, 0).shows(house, ()))
        self.assertFalse(Clouds(one, other, 0).shows(house, (0,)))
        self.assertFalse(Clouds(one, other, 0).shows(House(ROUND[0], 1), ()))
        twice = one + one[1:], other + other[1:]
        for back in range(7):
            with self.subTest(back=back):
                self.assertIs(Clouds(*twice, back).shows(house, ()), back in (0, 3))

    def test_tracks_that_are_back_with_their_states_swapped(self):
        house = House(*SWAPPING)
        one, other = [(0, 1), (1, 0), (2, 0), (3, 0), (0, 1)], [(2, 0), (3, 0), (0, 1), (1, 0), (2, 0)]
        self.assertTrue(Clouds(one, other, 0).shows(house, ()))
        for back in [None, 0, 1, 2]:
            self.assertFalse(Clouds(one[:3], other[:3], back).shows(house, ()))
        self.assertFalse(Clouds(one, other, 2).shows(house, ()))

    def test_only_from_the_moment_on_the_states_differ(self):
        house = House(*ALIKE)
        idle = [(0, 0)]
        one, other = [(0, 1), (1, 0), (0, 1)], [(1, 0), (0, 1), (1, 0)]
        self.assertTrue(Clouds(one, other, 0).shows(house, ()))
        self.assertTrue(Clouds(idle + one, idle + other, 1).shows(house, ()))
        self.assertFalse(Clouds(idle + one, idle + other, 0).shows(house, ()))
        # Both tracks come back, but between they have the same state.
        one, other = [(0, 1), (0, 0), (0, 1)], [(1, 0), (0, 0), (1, 0)]
        self.assertFalse(Clouds(one, other, 0).shows(house, ()))
        # At the index 0, neither of them is where it is at last, at the index 1 both are.
        one, other = [(0, 1), (1, 0), (0, 1), (1, 0)], [(1, 0), (0, 1), (1, 0), (0, 1)]
        self.assertFalse(Clouds(one, other, 0).shows(house, ()))
        self.assertTrue(Clouds(one, other, 1).shows(house, ()))

    def test_both_tracks_go_round(self):
        house = House(((2,), (2,), (2,)), 1)
        one, other = [(0, 0, 1), (0, 1, 0), (0, 0, 1)], [(0, 1, 0), (0, 0, 1), (1, 0, 0)]
        self.assertFalse(Clouds(one, other, 0).shows(house, ()))
        self.assertFalse(Clouds(other, one, 0).shows(house, ()))
        self.assertTrue(Clouds(one, other[:2] + [(0, 1, 0)], 0).shows(house, ()))

    def test_no_track_has_too_many_devices(self):
        one, other = [(0, 0, 0), (1, 1, 0)], [(0, 0, 0), (0, 0, 1)]
        self.assertTrue(Clouds(one, other, None).shows(House(((1,), (1,), (2,)), 2), ()))
        self.assertFalse(Clouds(one, other, None).shows(House(((1,), (1,), (2,)), 1), ()))

    def test_all_small_changes_of_what_is_found(self):
        for profiles, most, lamps in LIT_HOUSES:
            house, table = House(profiles, most), Lit(profiles, most, lamps)
            found = clearing(house, lamps)
            if isinstance(found, Clears):
                continue
            moments = [None] + list(range(-1, len(found.one) + 1))
            changed = [(found.one[:at], found.other[:at], back) for at in range(len(found.one) + 1) for back in moments]
            changed += [(found.one[:at] + [state] + found.one[at + 1:], found.other, found.back)
                        for at in range(len(found.one)) for state in table.states]
            changed += [([state] + found.one, [state] + found.other, back)
                        for state in table.states for back in moments]
            for one, other, back in changed:
                with self.subTest(profiles=profiles, most=most, lamps=lamps, one=one, other=other, back=back):
                    self.assertIs(Clouds(one, other, back).shows(house, lamps), table.shows_clouds(one, other, back))


if __name__ == "__main__":
    unittest.main()
