"""Telling what has run: points 1 and 4."""

import unittest
from itertools import combinations
from unittest import mock

from byhand import HOUSES, NO_HOUSES, Table, refused
from whatruns import known
from whatruns.errors import BadHouse, TooLarge
from whatruns.houses import House
from whatruns.known import Gemini, Known, delay, does_tell, tell
from whatruns.stories import NoStory

AT_ONCE = (((2, 1), (1, 2)), 2)
LATER = (((1, 2), (1, 3)), 2)
MEETING = (((2,), (2,)), 2)
ROUND = (((1, 1), (2, 1), (2, 3)), 2)

# With three devices of nearly equal ticks, 586 twins are the most below the limit that were found, 631 the least above.
BELOW = (((1, 1, 1, 1), (1, 1, 1, 1), (1, 2, 1, 1)), 3)
ABOVE = (((1, 1, 1), (1, 1, 1, 1), (1, 1, 1, 1)), 2)

RANKS = {((0, 1), (1, 0)): 1, ((0, 2), (2, 1)): 0}
ONE = [(0, 1), (0, 2)]
OTHER = [(1, 0), (2, 1)]


class TestTell(unittest.TestCase):

    def test_the_example(self):
        houses = [House(((2, 1), (1, 2)), 2), House(((1, 2), (1, 3)), 1), House(((1, 2), (1, 3)), 2),
                  House(((2,), (2,)), 2)]
        shown = [Known(2, RANKS, ONE, OTHER).shows(houses[2]), Known(1, RANKS, ONE, OTHER).shows(houses[2])]
        twins = [Gemini([(0, 1), (0, 0)], [(1, 0), (0, 0)], None).shows(houses[3]),
                 Gemini([(0, 1)], [(1, 0)], None).shows(houses[3])]
        found = [[delay(house) for house in houses], shown, twins, [tell(house).shows(house) for house in houses]]
        self.assertEqual(found, [[0, 1, 2, None], [True, False], [True, False], [True, True, True, True]])

    def test_some_houses_against_what_is_worked_out_by_hand(self):
        for profiles, most in HOUSES:
            with self.subTest(profiles=profiles, most=most):
                house, table = House(profiles, most), Table(profiles, most)
                found, least = tell(house), table.delay()
                self.assertEqual(delay(house), least)
                self.assertIs(does_tell(house), least is not None)
                if least is None:
                    self.assertIs(type(found), Gemini)
                    self.assertTrue(table.shows_gemini(found.one, found.other, found.back))
                else:
                    self.assertIs(type(found), Known)
                    self.assertEqual(found.delay, least)
                    self.assertTrue(table.shows_known(found.delay, found.ranks, found.one, found.other))
                self.assertIs(found.shows(house), True)

    def test_all_houses_with_two_small_devices(self):
        profiles = [(1,), (2,), (1, 1), (1, 2), (2, 1), (1, 2, 1), (2, 2, 1), (1, 1, 3)]
        delays = {}
        for first in profiles:
            for second in profiles:
                for most in (1, 2):
                    with self.subTest(first=first, second=second, most=most):
                        house, table = House((first, second), most), Table((first, second), most)
                        delays[delay(house)] = True
                        self.assertEqual(delay(house), table.delay())
                        self.assertTrue(tell(house).shows(house))
        self.assertTrue({None, 0, 1, 2, 3} <= set(delays))

    def test_one_device_tells_at_once(self):
        for profile in [(1,), (1, 1), (1, 1, 1, 1), (9, 1, 9, 1)]:
            for most in (1, 2, 3):
                with self.subTest(profile=profile, most=most):
                    self.assertEqual(delay(House((profile,), most)), 0)

    def test_what_never_tells_meets_or_goes_round(self):
        meeting = tell(House(*MEETING))
        self.assertIsNone(meeting.back)
        self.assertEqual(meeting.one[-1], meeting.other[-1])
        going_round = tell(House(*ROUND))
        self.assertEqual(type(going_round.back), int)
        self.assertTrue(Table(*ROUND).shows_gemini(going_round.one, going_round.other, going_round.back))

    def test_only_as_many_devices_as_can_run(self):
        self.assertEqual(delay(House(((1,), (2,), (3,)), 1)), 0)
        self.assertIsNone(delay(House(((1,), (2,), (3,)), 2)))

    def test_every_answer_is_new(self):
        for profiles, most in [LATER, MEETING]:
            house = House(profiles, most)
            found = tell(house)
            found.one.clear()
            found.other.clear()
            self.assertTrue(tell(house).shows(house))
            self.assertFalse(tell(house) == found)

    def test_what_is_no_house(self):
        for house in NO_HOUSES:
            for function in (tell, does_tell, delay, Known(0, {}, [], []).shows, Gemini([], [], None).shows):
                with self.subTest(house=house, function=function.__name__):
                    self.assertIsNone(refused(BadHouse, function, house).part)


class TestTooLarge(unittest.TestCase):

    def test_houses_below_and_above_the_limit(self):
        self.assertEqual(len(Table(*BELOW).twins()), 586)
        self.assertEqual(len(Table(*ABOVE).twins()), 631)
        self.assertIs(does_tell(House(*BELOW)), False)
        self.assertIsNone(delay(House(*BELOW)))
        self.assertTrue(tell(House(*BELOW)).shows(House(*BELOW)))
        for function in (tell, does_tell, delay):
            with self.subTest(function=function.__name__):
                refused(TooLarge, function, House(*ABOVE))

    def test_it_is_600(self):
        self.assertEqual(known.MOST_TWINS, 600)

    def test_just_so_many_twins_are_allowed(self):
        for profiles, most in HOUSES + [BELOW, ABOVE]:
            house, many = House(profiles, most), len(Table(profiles, most).twins())
            with self.subTest(profiles=profiles, most=most, many=many):
                with mock.patch.object(known, "MOST_TWINS", many):
                    self.assertTrue(tell(house).shows(house))
                with mock.patch.object(known, "MOST_TWINS", many - 1):
                    refused(TooLarge, tell, house)

    def test_shows_knows_no_limit(self):
        house = House(*ABOVE)
        one, other = [(0, 0, 1), (0, 0, 2), (0, 0, 3), (0, 0, 4)], [(0, 1, 0), (0, 2, 0), (0, 3, 0), (0, 4, 0)]
        self.assertTrue(Gemini(one + [(0, 0, 0)], other + [(0, 0, 0)], None).shows(house))
        self.assertFalse(Gemini(one, other, None).shows(house))
        self.assertFalse(Known(4, {}, one, other).shows(house))


class TestKnown(unittest.TestCase):

    def test_attributes_are_copies(self):
        ranks, one, other = dict(RANKS), list(ONE), list(OTHER)
        found = Known(2, ranks, one, other)
        self.assertEqual((found.delay, found.ranks, found.one, found.other), (2, RANKS, ONE, OTHER))
        ranks.clear()
        one.clear()
        other.append((0, 0))
        self.assertEqual((found.delay, found.ranks, found.one, found.other), (2, RANKS, ONE, OTHER))
        found.ranks.clear()
        found.other.clear()
        self.assertEqual((ranks, other), ({}, OTHER + [(0, 0)]))

    def test_equality(self):
        found = Known(2, RANKS, ONE, OTHER)
        backwards = {twin: RANKS[twin] for twin in reversed(list(RANKS))}
        self.assertTrue(found == Known(2, backwards, ONE, OTHER))
        self.assertFalse(found != Known(2, backwards, ONE, OTHER))
        for changed in [Known(3, RANKS, ONE, OTHER), Known(2, {}, ONE, OTHER), Known(2, RANKS, ONE[:1], OTHER),
                        Known(2, RANKS, ONE, OTHER[:1]), Known(2, RANKS, OTHER, ONE), Gemini(ONE, OTHER, None),
                        NoStory([]), House(*LATER)]:
            with self.subTest(changed=type(changed).__name__):
                self.assertFalse(found == changed)
                self.assertTrue(found != changed)
                self.assertFalse(changed == found)

    def test_it_shows_nothing_of_other_houses(self):
        found = Known(2, RANKS, ONE, OTHER)
        self.assertIs(found.shows(House(*LATER)), True)
        self.assertIs(found.shows(House(((1, 2), (1, 2)), 2)), False)
        self.assertIs(found.shows(House(((1, 3), (1, 2)), 2)), False)

    def test_the_current_attributes_count(self):
        house = House(*LATER)
        found = Known(0, {}, [], [])
        self.assertFalse(found.shows(house))
        found.delay, found.ranks, found.one, found.other = 2, dict(RANKS), list(ONE), list(OTHER)
        self.assertTrue(found.shows(house))
        found.ranks[((0, 2), (2, 1))] = 1
        self.assertFalse(found.shows(house))
        found.ranks = {twin: RANKS[twin] for twin in reversed(list(RANKS))}
        self.assertTrue(found.shows(house))
        found.one.pop()
        self.assertFalse(found.shows(house))
        self.assertEqual((found.one, found.other), (ONE[:1], OTHER))

    def test_the_delay(self):
        house = House(*LATER)
        for changed in (-1, 0, 1, 3, 10 ** 30):
            with self.subTest(changed=changed):
                self.assertFalse(Known(changed, RANKS, ONE, OTHER).shows(house))

    def test_a_delay_of_none(self):
        house = House(*AT_ONCE)
        self.assertTrue(Known(0, {}, [], []).shows(house))
        self.assertTrue(Known(0, {}, [(1, 0)], [(1, 0)]).shows(house))
        self.assertFalse(Known(-1, {}, [], []).shows(house))
        self.assertFalse(Known(0, {((0, 2), (1, 0)): 0}, [], []).shows(house))
        self.assertFalse(Known(0, {}, [(1, 0)], [(0, 1)]).shows(house))
        self.assertFalse(Known(0, {}, [(1, 0)], []).shows(house))
        self.assertFalse(Known(0, {}, [(2, 0)], [(2, 0)]).shows(house))
        self.assertFalse(Known(1, {}, [(1, 0)], [(1, 0)]).shows(house))

    def test_ranks_may_be_more_than_needed(self):
        # This twin neither branches nor follows one that does, and no twin follows it.
        twin = ((1, 1), (2, 0))
        self.assertNotIn(twin, Table(*LATER).twins())
        for rank, shown in [(-1, False), (0, True), (1, True), (2, False)]:
            with self.subTest(rank=rank):
                self.assertEqual(Known(2, RANKS | {twin: rank}, ONE, OTHER).shows(House(*LATER)), shown)

    def test_all_small_changes_of_ranks(self):
        for profiles, most in HOUSES:
            house, table = House(profiles, most), Table(profiles, most)
            found = tell(house)
            if isinstance(found, Gemini):
                continue
            changed = [{twin: found.ranks[twin] for twin in found.ranks if twin != left} for left in found.ranks]
            changed += [found.ranks | {twin: found.ranks[twin] + by} for twin in found.ranks for by in (-1, 1)]
            changed += [found.ranks | {twin: 0} for twin in combinations(table.states, 2) if table.is_twin(twin)]
            for ranks in changed:
                with self.subTest(profiles=profiles, most=most, ranks=ranks):
                    self.assertEqual(Known(found.delay, ranks, found.one, found.other).shows(house),
                                     table.shows_known(found.delay, ranks, found.one, found.other))

    def test_ranks_that_lack_a_twin_or_do_not_fall(self):
        house = House(*LATER)
        for ranks in [{}, {((0, 1), (1, 0)): 1}, {((0, 2), (2, 1)): 0}, {((0, 1), (1, 0)): 1, ((0, 2), (2, 1)): 1},
                      {((0, 1), (1, 0)): 0, ((0, 2), (2, 1)): 0}, {((0, 1), (1, 0)): 2, ((0, 2), (2, 1)): 0},
                      {((0, 1), (1, 0)): 1, ((0, 2), (2, 1)): -1}, {((0, 1), (1, 0)): 0, ((0, 2), (2, 1)): 1}]:
            with self.subTest(ranks=ranks):
                self.assertFalse(Known(2, ranks, ONE, OTHER).shows(house))

    def test_pairs_that_are_no_twins_and_numbers_that_are_no_ranks(self):
        house = House(*LATER)
        pairs = [((2, 0), (1, 1)), ((1, 1), (1, 1)), ((1, 1), (2, 2)), ((1, 1),), ((1, 1), (2, 0), (2, 0)), (1, 2), 5,
                 None, ((1, 1), (3, 0)), ((0, 3), (2, 0)), ((1, True), (2, 0)), ((1, 1), (2, False)), ((1,), (2, 0))]
        for pair in pairs:
            with self.subTest(pair=pair):
                self.assertFalse(Known(2, RANKS | {pair: 0}, ONE, OTHER).shows(house))
        for rank in (True, None, "0"):
            with self.subTest(rank=rank):
                self.assertFalse(Known(2, RANKS | {((1, 1), (2, 0)): rank}, ONE, OTHER).shows(house))
        self.assertFalse(Known(True, {((0, 1), (1, 0)): 0}, [(0, 1)], [(1, 0)]).shows(House(((1, 2), (1, 3)), 1)))
        self.assertTrue(Known(1, {((0, 1), (1, 0)): 0}, [(0, 1)], [(1, 0)]).shows(House(((1, 2), (1, 3)), 1)))

    def test_a_twin_whose_states_meet_has_no_rank(self):
        house = House(*MEETING)
        self.assertFalse(Known(1, {((0, 1), (1, 0)): 0}, [(0, 1)], [(1, 0)]).shows(house))

    def test_twins_that_branch_from_another_state_than_the_idle_one(self):
        house = House(((5, 5), (1, 2), (1, 3)), 3)
        found = tell(house)
        self.assertEqual((found.delay, found.shows(house)), (2, True))
        # It follows no other twin, and branches from (1, 0, 0) only.
        del found.ranks[((2, 0, 1), (2, 1, 0))]
        self.assertFalse(found.shows(house))

    def test_the_runs(self):
        house = House(*LATER)
        longer = [(0, 0), (0, 1), (0, 2)], [(0, 0), (1, 0), (2, 1)]
        self.assertTrue(Known(2, RANKS, *longer).shows(house))
        self.assertTrue(Known(2, RANKS, OTHER, ONE).shows(house))
        for one, other in [([], []), (ONE[:1], OTHER[:1]), (ONE, OTHER[:1]), (ONE, ONE), (ONE[1:], OTHER[1:]),
                           ([(0, 0)] + ONE[:1], [(0, 0)] + OTHER[:1]), ([(0, 0)] + ONE, OTHER),
                           (ONE, [(1, 0), (2, 0)]), (ONE, [(0, 1), (0, 2)]), ([(0, 2), (0, 2)], [(2, 1), (2, 1)]),
                           (ONE + [(0, 0)], OTHER + [(0, 0)])]:
            with self.subTest(one=one, other=other):
                self.assertFalse(Known(2, RANKS, one, other).shows(house))


class TestGemini(unittest.TestCase):

    def test_attributes_are_copies(self):
        one, other = [(0, 1), (0, 0)], [(1, 0), (0, 0)]
        for back in (None, 0):
            found = Gemini(one, other, back)
            self.assertEqual((found.one, found.other, found.back), ([(0, 1), (0, 0)], [(1, 0), (0, 0)], back))
            found.one.clear()
            found.other.pop()
        self.assertEqual((one, other), ([(0, 1), (0, 0)], [(1, 0), (0, 0)]))
        found = Gemini(one, other, None)
        one.clear()
        other.clear()
        self.assertTrue(found.shows(House(*MEETING)))

    def test_equality(self):
        found = Gemini(ONE, OTHER, 1)
        self.assertTrue(found == Gemini(ONE, OTHER, 1))
        self.assertFalse(found != Gemini(ONE, OTHER, 1))
        for changed in [Gemini(ONE, OTHER, None), Gemini(ONE, OTHER, 0), Gemini(OTHER, ONE, 1),
                        Gemini(ONE[:1], OTHER, 1), Gemini(ONE, OTHER[:1], 1), Known(1, {}, ONE, OTHER), NoStory(ONE),
                        House(*LATER)]:
            with self.subTest(changed=type(changed).__name__):
                self.assertFalse(found == changed)
                self.assertTrue(found != changed)
                self.assertFalse(changed == found)

    def test_the_current_attributes_count(self):
        house = House(*MEETING)
        found = Gemini([(0, 1)], [(1, 0)], None)
        self.assertIs(found.shows(house), False)
        found.one.append((0, 0))
        found.other.append((0, 0))
        self.assertIs(found.shows(house), True)
        found.back = 0
        self.assertIs(found.shows(house), False)

    def test_runs_that_meet(self):
        house = House(*MEETING)
        self.assertTrue(Gemini([(1, 0), (0, 0)], [(0, 1), (0, 0)], None).shows(house))
        self.assertTrue(Gemini([(0, 1), (0, 0), (1, 1)], [(1, 0), (0, 0), (1, 1)], None).shows(house))
        wrong = [([], []), ([(0, 1)], [(1, 0)]), ([(0, 1), (0, 0)], [(0, 1), (0, 0)]), ([(0, 1), (0, 0)], [(1, 0)]),
                 ([(0, 1), (0, 0)], [(1, 0), (0, 0), (0, 0)]), ([(0, 1), (0, 0)], [(0, 0), (0, 0)]),
                 ([(0, 1), (0, 1)], [(1, 0), (0, 1)]), ([(0, 1), (1, 0)], [(1, 0), (1, 0)]), ([(0, 0)], [(0, 0)]),
                 ([(0, 1), (1, 0)], [(1, 0), (0, 1)]),
                 ([(0, 1), (0, 0), (0, 1)], [(1, 0), (0, 0), (1, 0)])]
        for one, other in wrong:
            with self.subTest(one=one, other=other):
                self.assertFalse(Gemini(one, other, None).shows(house))

    def test_no_run_has_too_many_devices(self):
        one, other = [(1, 1, 0), (0, 0, 0)], [(0, 0, 1), (0, 0, 0)]
        self.assertTrue(Gemini(one, other, None).shows(House(((1,), (1,), (2,)), 2)))
        self.assertFalse(Gemini(one, other, None).shows(House(((1,), (1,), (2,)), 1)))

    def test_runs_that_go_round(self):
        house = House(*ROUND)
        one = [(0, 0, 1), (0, 0, 2), (1, 1, 0), (2, 2, 0), (0, 0, 1), (0, 0, 2), (1, 1, 0)]
        other = [(0, 1, 0), (0, 2, 1), (0, 0, 2), (0, 1, 0), (1, 2, 0), (2, 0, 1), (0, 0, 2)]
        for back in [None] + list(range(-8, 9)):
            with self.subTest(back=back):
                self.assertEqual(Gemini(one, other, back).shows(house), back == 2)
                self.assertEqual(Gemini(other, one, back).shows(house), back == 2)
        self.assertFalse(Gemini(one[:-1], other[:-1], 2).shows(house))
        self.assertFalse(Gemini(one, one, 2).shows(house))
        self.assertFalse(Gemini(one, other[:-1], 2).shows(house))
        self.assertFalse(Gemini(one[2:], other[2:], 0).shows(house))
        self.assertTrue(Gemini([(0, 0, 0)] + one, [(0, 0, 0)] + other, 3).shows(house))

    def test_states_that_come_again_are_different_ones(self):
        # Both runs are back where they were, but there they were alike, or only one of them is.
        house = House(*MEETING)
        self.assertFalse(Gemini([(0, 0), (0, 1), (0, 0)], [(0, 0), (1, 0), (0, 0)], 0).shows(house))
        self.assertTrue(Gemini([(0, 1), (0, 0), (0, 1)], [(1, 0), (0, 0), (1, 0)], 0).shows(house))
        self.assertFalse(Gemini([(0, 1), (0, 0), (0, 1)], [(1, 0), (0, 0), (0, 1)], 0).shows(house))
        self.assertFalse(Gemini([(0, 1), (0, 0), (0, 1)], [(1, 0), (0, 0), (1, 0)], 2).shows(house))
        self.assertFalse(Gemini([(0, 1), (0, 0), (0, 1)], [(1, 0), (0, 0), (1, 0)], 1).shows(house))

    def test_all_small_changes_of_what_is_found(self):
        for profiles, most in HOUSES:
            house, table = House(profiles, most), Table(profiles, most)
            found = tell(house)
            if isinstance(found, Known):
                continue
            changed = [(found.one[:at], found.other[:at], back) for at in range(len(found.one) + 1)
                       for back in [None] + list(range(-1, at + 1))]
            changed += [(found.one[:at] + [state] + found.one[at + 1:], found.other, found.back)
                        for at in range(len(found.one)) for state in table.states]
            for one, other, back in changed:
                with self.subTest(profiles=profiles, most=most, one=one, other=other, back=back):
                    self.assertEqual(Gemini(one, other, back).shows(house), table.shows_gemini(one, other, back))


if __name__ == "__main__":
    unittest.main()
