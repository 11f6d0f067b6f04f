"""Explaining readings: points 1 and 5."""

import unittest
from itertools import product

from byhand import HOUSES, NO_HOUSES, Table, refused
from whatruns.errors import BadHouse, BadReadings
from whatruns.houses import House
from whatruns.known import Gemini
from whatruns.stories import NoStory, Story, facts, fewest_starts, find_story

MIXED = (((2, 1), (1, 2)), 2)
ALIKE = (((2,), (2,)), 2)
SINGLE = (((3, 1, 1, 2),), 1)


def all_readings(table, most):
    """All lists of so many readings at most, of what the meter can show and of one total that it cannot show."""
    totals = sorted(set(table.total.values()))
    totals.append(next(watts for watts in range(28) if watts not in totals))
    return [list(shown) for length in range(1, most + 1) for shown in product(totals, repeat=length)]


def reached_spots(table, shown):
    found = [(0, table.idle)]
    for spot in found:
        found.extend(later for later in table.leads(shown, spot) if later not in found)
    return found


class TestFindStory(unittest.TestCase):

    def test_the_example(self):
        house, like = House(((2, 1), (1, 2)), 2), House(((2,), (2,)), 2)
        found = find_story(house, [2, 1, 1, 2])
        few = [fewest_starts(house, [2, 2, 2]), fewest_starts(house, [4])]
        shown = [NoStory([(0, (0, 0))]).shows(house, [4]), Story([(1, 1)], {}).shows(house, [3])]
        self.assertEqual(
            [list(found), few, shown, facts(house, [2, 1]), facts(like, [2, 0, 4]), facts(like, [1])],
            [[(1, 0), (2, 0), (0, 1), (0, 2)], [2, None], [True, False], [(True, False), (True, False)],
             [(None, None), (False, False), (True, True)], None])

    def check(self, house, table, shown):
        runs, found = table.runs(shown), find_story(house, shown)
        self.assertIs(found.shows(house, shown), True)
        self.assertEqual(facts(house, shown), table.facts(shown))
        if runs:
            fewest = min(table.starts(run) for run in runs)
            self.assertIs(type(found), Story)
            self.assertEqual(fewest_starts(house, shown), fewest)
            self.assertEqual(table.starts(found.states), fewest)
            self.assertTrue(table.shows_story(shown, found.states, found.floors))
        else:
            self.assertIs(type(found), NoStory)
            self.assertIsNone(fewest_starts(house, shown))
            self.assertTrue(table.shows_no_story(shown, found.spots))

    def test_all_short_readings_of_some_houses(self):
        for profiles, most in HOUSES:
            house, table = House(profiles, most), Table(profiles, most)
            for shown in all_readings(table, 2 if len(table.states) > 20 else 3):
                with self.subTest(profiles=profiles, most=most, shown=shown):
                    self.check(house, table, shown)

    def test_eight_readings(self):
        for profiles, most in HOUSES:
            house, table = House(profiles, most), Table(profiles, most)
            first, second = [], []
            for at in range(8):
                first.append(table.after[first[-1] if first else table.idle][-1])
                after = table.after[second[-1] if second else table.idle]
                second.append(after[at % len(after)])
            for shown in (table.totals(first), table.totals(second), table.totals(second)[:7] + [27]):
                with self.subTest(profiles=profiles, most=most, shown=shown):
                    self.check(house, table, shown)

    def test_the_greatest_readings(self):
        house = House(((9,), (9, 1), (9, 9, 9)), 3)
        self.assertEqual(list(find_story(house, [27])), [(1, 1, 1)])
        self.assertEqual(fewest_starts(house, [27]), 3)
        self.assertIsNone(fewest_starts(house, [26]))
        self.assertEqual(facts(house, [27]), [(True, True, True)])
        self.assertIsNone(fewest_starts(House(((9,), (9, 1), (9, 9, 9)), 2), [27]))

    def test_fewer_starts_at_first_can_be_of_no_use_later(self):
        house = House(((2, 2, 2), (1, 1), (1, 1, 1, 1)), 3)
        self.assertEqual(fewest_starts(house, [2, 2]), 1)
        self.assertEqual(fewest_starts(house, [2, 2, 2]), 1)
        self.assertEqual(fewest_starts(house, [2, 2, 1, 1]), 2)

    def test_the_same_spot_with_fewer_and_more_starts(self):
        for profiles in [((2,), (1,), (1,)), ((1,), (2,), (1,)), ((1,), (1,), (2,))]:
            with self.subTest(profiles=profiles):
                house = House(profiles, 3)
                self.assertEqual(fewest_starts(house, [2, 0, 2, 0]), 2)
                self.assertTrue(find_story(house, [2, 0, 2, 0]).shows(house, [2, 0, 2, 0]))

    def test_a_device_with_one_tick(self):
        house = House(((3,),), 1)
        self.assertEqual(list(find_story(house, [3, 0, 3])), [(1,), (0,), (1,)])
        self.assertEqual(fewest_starts(house, [3, 0, 3, 0, 0, 3, 0, 3]), 4)
        self.assertIsNone(fewest_starts(house, [3, 3]))

    def test_nothing_runs(self):
        for profiles, most in HOUSES:
            with self.subTest(profiles=profiles, most=most):
                house = House(profiles, most)
                found = find_story(house, [0] * 8)
                self.assertEqual(list(found), [house.idle()] * 8)
                self.assertEqual(fewest_starts(house, [0] * 8), 0)
                self.assertEqual(facts(house, [0] * 8), [(False,) * len(profiles)] * 8)

    def test_tuples_of_readings(self):
        house = House(*MIXED)
        self.assertEqual(find_story(house, (2, 1, 1, 2)), find_story(house, [2, 1, 1, 2]))
        self.assertTrue(find_story(house, (2, 1)).shows(house, (2, 1)))
        self.assertTrue(find_story(house, (4,)).shows(house, (4,)))
        self.assertEqual(fewest_starts(house, (2, 2, 2)), 2)
        self.assertEqual(facts(house, (2, 1)), [(True, False), (True, False)])

    def test_arguments_stay_and_every_answer_is_new(self):
        house, shown = House(*MIXED), [2, 1, 1, 2]
        found = find_story(house, shown)
        found.states.clear()
        found.floors.clear()
        self.assertTrue(find_story(house, shown).shows(house, shown))
        facts(house, shown).clear()
        self.assertEqual(len(facts(house, shown)), 4)
        lost = find_story(house, [4])
        lost.spots.clear()
        self.assertTrue(find_story(house, [4]).shows(house, [4]))
        self.assertEqual(shown, [2, 1, 1, 2])


class TestWrongArguments(unittest.TestCase):

    CALLS = [find_story, fewest_starts, facts, Story([], {}).shows, NoStory([]).shows]

    def test_what_is_no_list_of_one_to_eight_items(self):
        house = House(*MIXED)
        for shown in [None, 0, True, "", "12", b"12", {}, {1: 1}, set(), range(2), iter([1]), house, object(), [], (),
                      [0] * 9, (0,) * 9, [None] * 9, [28] * 9]:
            for function in self.CALLS:
                with self.subTest(shown=shown, function=function.__qualname__):
                    self.assertIsNone(refused(BadReadings, function, house, shown).index)

    def test_the_first_one_that_is_no_reading(self):
        house = House(*MIXED)
        for wrong in [28, -1, 10 ** 30, True, False, None, "1", b"1", (1,), [1], {}, house, object()]:
            for before in range(8):
                shown = [27, 0, 26, 1, 2, 3, 4][:before] + [wrong] + [None, 28][:7 - before]
                for given in (shown, tuple(shown)):
                    for function in self.CALLS:
                        with self.subTest(shown=given, function=function.__qualname__):
                            found = refused(BadReadings, function, house, given).index
                            self.assertEqual((type(found), found), (int, before))

    def test_the_limits_themselves_are_allowed(self):
        house = House(*MIXED)
        self.assertIsNone(fewest_starts(house, [27]))
        self.assertEqual(fewest_starts(house, [0]), 0)
        self.assertIsNone(facts(house, [0] * 7 + [27]))

    def test_the_house_comes_first(self):
        for house in NO_HOUSES:
            for function in self.CALLS:
                for shown in ([1], None, [], [28]):
                    with self.subTest(house=house, shown=shown, function=function.__qualname__):
                        self.assertIsNone(refused(BadHouse, function, house, shown).part)


class TestStory(unittest.TestCase):

    def test_attributes_are_copies(self):
        states, floors = [(1, 0)], {(0, (0, 0)): 1}
        found = Story(states, floors)
        states.clear()
        floors.clear()
        self.assertEqual((found.states, found.floors), ([(1, 0)], {(0, (0, 0)): 1}))
        found.states.clear()
        found.floors.clear()
        self.assertEqual((states, floors), ([], {}))

    def test_it_gives_its_states_each_time_anew(self):
        found = Story([(1, 0), (2, 1)], {})
        self.assertEqual([(one, other) for one in found for other in found],
                         [((1, 0), (1, 0)), ((1, 0), (2, 1)), ((2, 1), (1, 0)), ((2, 1), (2, 1))])
        found.states.append((0, 2))
        self.assertEqual(list(found), [(1, 0), (2, 1), (0, 2)])
        self.assertEqual(list(Story([], {})), [])

    def test_equality(self):
        floors = {(0, (0, 0)): 2, (1, (1, 0)): 1}
        found = Story([(1, 0), (2, 1)], floors)
        self.assertTrue(found == Story([(1, 0), (2, 1)], {(1, (1, 0)): 1, (0, (0, 0)): 2}))
        self.assertFalse(found != Story([(1, 0), (2, 1)], floors))
        for changed in [Story([(1, 0)], floors), Story([(1, 0), (2, 0)], floors), Story([(1, 0), (2, 1)], {}),
                        Story([(1, 0), (2, 1)], {(0, (0, 0)): 2, (1, (1, 0)): 2}), NoStory([(1, 0), (2, 1)]),
                        NoStory([]), House(*MIXED), Gemini([], [], None)]:
            with self.subTest(changed=type(changed).__name__):
                self.assertFalse(found == changed)
                self.assertTrue(found != changed)
                self.assertFalse(changed == found)

    def test_the_current_attributes_count(self):
        house = House(*SINGLE)
        found = Story([], {})
        self.assertIs(found.shows(house, [3]), False)
        found.states.append((1,))
        self.assertIs(found.shows(house, [3]), False)
        found.floors[(0, (0,))] = 1
        self.assertIs(found.shows(house, [3]), True)
        found.floors = {(0, (0,)): 0}
        self.assertIs(found.shows(house, [3]), False)

    def test_the_states(self):
        house, floors = House(*MIXED), find_story(House(*MIXED), [2, 1, 1]).floors
        self.assertTrue(Story([(1, 0), (2, 0), (0, 1)], floors).shows(house, [2, 1, 1]))
        for states in [[], [(1, 0), (2, 0)], [(1, 0), (2, 0), (0, 1), (0, 2)], [(1, 0), (2, 0), (0, 0)],
                       [(0, 2), (0, 1), (0, 1)], [(1, 0), (2, 0), (2, 0)], [(1, 0), (0, 1), (0, 1)]]:
            with self.subTest(states=states):
                self.assertFalse(Story(states, floors).shows(house, [2, 1, 1]))

    def test_a_run_with_more_starts_than_needed(self):
        house = House(((2, 2), (1,), (1,)), 3)
        floors = find_story(house, [2]).floors
        self.assertTrue(Story([(1, 0, 0)], floors).shows(house, [2]))
        self.assertFalse(Story([(0, 1, 1)], floors).shows(house, [2]))
        self.assertFalse(Story([(0, 1, 1)], {(0, (0, 0, 0)): 2}).shows(house, [2]))
        self.assertFalse(Story([(0, 1, 1)], {(0, (0, 0, 0)): 2, (1, (1, 0, 0)): 1}).shows(house, [2]))

    def test_the_floor_of_the_first_spot(self):
        house, first = House(*SINGLE), (0, (0,))
        self.assertTrue(Story([(1,)], {first: 1}).shows(house, [3]))
        for floors in [{}, {first: 0}, {first: -1}, {first: 2}, {(1, (1,)): 1}, {(1, (1,)): 0}]:
            with self.subTest(floors=floors):
                self.assertFalse(Story([(1,)], floors).shows(house, [3]))

    def test_without_starts_no_floor_is_needed(self):
        house, first = House(*SINGLE), (0, (0,))
        for floors in [{}, {first: 0}, {first: -5}, {(1, (0,)): 0}, {(1, (0,)): -1}]:
            with self.subTest(floors=floors):
                self.assertTrue(Story([(0,)], floors).shows(house, [0]))
        self.assertFalse(Story([(0,)], {first: 1}).shows(house, [0]))
        self.assertFalse(Story([(0,)], {(1, (0,)): 1}).shows(house, [0]))

    def test_floors_are_handed_on(self):
        house, first = House(*SINGLE), (0, (0,))
        shown, states = [0, 3, 1], [(0,), (1,), (2,)]
        right = {first: 1, (1, (0,)): 1}
        self.assertTrue(Story(states, right).shows(house, shown))
        self.assertTrue(Story(states, {(1, (0,)): 1, first: 1}).shows(house, shown))
        self.assertTrue(Story(states, right | {(2, (1,)): 0, (3, (2,)): 0}).shows(house, shown))
        self.assertTrue(Story(states, right | {(2, (1,)): -1}).shows(house, shown))
        for floors in [{first: 1}, {first: 1, (1, (0,)): 0}, {first: 2, (1, (0,)): 1}, right | {(2, (1,)): 1},
                       right | {(3, (2,)): 1}, {first: 2, (1, (0,)): 2}, {(1, (0,)): 1}]:
            with self.subTest(floors=floors):
                self.assertFalse(Story(states, floors).shows(house, shown))

    def test_what_is_no_spot_or_no_floor(self):
        house, right = House(*SINGLE), {(0, (0,)): 1}
        for spot in [(True, (1,)), (1, (True,)), (1, (5,)), (1, 1), (1,), (1, (1,), 1), (-1, (0,)), None, (1, (1, 0))]:
            with self.subTest(spot=spot):
                self.assertFalse(Story([(1,)], right | {spot: 0}).shows(house, [3]))
                self.assertFalse(NoStory([(0, (0,)), spot]).shows(house, [4, 0]))
        self.assertFalse(NoStory([(0, (0,)), [1, (1,)]]).shows(house, [4, 0]))
        self.assertTrue(NoStory([(0, (0,)), (1, (1,))]).shows(house, [4, 0]))
        for floor in (True, None, "1"):
            with self.subTest(floor=floor):
                self.assertFalse(Story([(1,)], {(0, (0,)): floor}).shows(house, [3]))

    def test_two_starts_at_once_count_as_two(self):
        house, first = House(((1, 2), (1, 3)), 2), (0, (0, 0))
        self.assertTrue(Story([(1, 1)], {first: 2}).shows(house, [2]))
        self.assertTrue(Story([(1, 1), (2, 2)], {first: 2}).shows(house, [2, 5]))
        self.assertFalse(Story([(1, 1)], {first: 1}).shows(house, [2]))
        self.assertFalse(Story([(1, 1)], {first: 3}).shows(house, [2]))

    def test_all_small_changes_of_floors(self):
        for profiles, most in HOUSES:
            house, table = House(profiles, most), Table(profiles, most)
            for shown in all_readings(table, 2):
                found = find_story(house, shown)
                if isinstance(found, NoStory):
                    continue
                floors, spots = found.floors, reached_spots(table, shown)
                changed = [{spot: floors[spot] for spot in floors if spot != left} for left in floors]
                changed += [floors | {spot: floor} for spot in spots for floor in (-1, 0, 1, 2)]
                for given in changed:
                    with self.subTest(profiles=profiles, most=most, shown=shown, floors=given):
                        self.assertEqual(Story(found.states, given).shows(house, shown),
                                         table.shows_story(shown, found.states, given))


class TestNoStory(unittest.TestCase):

    def test_attributes_are_copies(self):
        spots = [(0, (0, 0))]
        found = NoStory(spots)
        spots.clear()
        self.assertEqual(found.spots, [(0, (0, 0))])
        found.spots.append((1, (0, 0)))
        self.assertEqual(spots, [])

    def test_it_gives_its_spots_each_time_anew(self):
        found = NoStory([(0, (0,)), (1, (1,))])
        self.assertEqual(len([(one, other) for one in found for other in found]), 4)
        self.assertEqual(list(found), [(0, (0,)), (1, (1,))])
        found.spots.pop()
        self.assertEqual(list(found), [(0, (0,))])

    def test_equality(self):
        found = NoStory([(0, (0,)), (1, (1,))])
        self.assertTrue(found == NoStory([(0, (0,)), (1, (1,))]))
        self.assertFalse(found != NoStory([(0, (0,)), (1, (1,))]))
        for changed in [NoStory([(0, (0,))]), NoStory([(1, (1,)), (0, (0,))]), NoStory([]),
                        Story([(0, (0,)), (1, (1,))], {}), House(*SINGLE)]:
            with self.subTest(changed=type(changed).__name__):
                self.assertFalse(found == changed)
                self.assertTrue(found != changed)
                self.assertFalse(changed == found)

    def test_the_current_attributes_count(self):
        house = House(*SINGLE)
        found = NoStory([])
        self.assertIs(found.shows(house, [3, 2]), False)
        found.spots.append((0, (0,)))
        self.assertIs(found.shows(house, [3, 2]), False)
        found.spots.insert(0, (1, (1,)))
        self.assertIs(found.shows(house, [3, 2]), True)

    def test_changed_spots(self):
        house, spots = House(*SINGLE), [(0, (0,)), (1, (1,)), (2, (2,))]
        self.assertTrue(NoStory(spots).shows(house, [3, 1, 2]))
        self.assertTrue(NoStory(spots[::-1]).shows(house, [3, 1, 2]))
        self.assertTrue(NoStory(spots + spots).shows(house, [3, 1, 2]))
        for changed in [[], spots[:1], spots[:2], spots[1:], [spots[0], spots[2]]]:
            with self.subTest(changed=changed):
                self.assertFalse(NoStory(changed).shows(house, [3, 1, 2]))

    def test_no_number_is_that_of_the_readings(self):
        house, spots = House(*SINGLE), [(0, (0,)), (1, (1,)), (2, (2,))]
        self.assertFalse(NoStory(spots).shows(house, [3, 1]))
        self.assertFalse(NoStory(spots[:2]).shows(house, [3, 1]))
        self.assertFalse(NoStory(spots + [(3, (3,))]).shows(house, [3, 1, 1]))
        self.assertFalse(NoStory(spots).shows(house, [3, 1, 1]))
        self.assertFalse(NoStory([(0, (0,)), (1, (0,))]).shows(house, [0]))

    def test_spots_that_others_lead_to(self):
        # From the first spot, two ways lead on, and both end too soon.
        house, first = House(((1, 2), (1, 3)), 1), (0, (0, 0))
        both = [(1, (1, 0)), (1, (0, 1))]
        self.assertTrue(NoStory([first] + both).shows(house, [1, 1]))
        self.assertFalse(NoStory([first] + both[:1]).shows(house, [1, 1]))
        self.assertFalse(NoStory([first] + both[1:]).shows(house, [1, 1]))
        self.assertFalse(NoStory([first] + both).shows(house, [1, 2]))
        self.assertFalse(NoStory([first] + both).shows(house, [1, 1, 1][:1]))


class TestFacts(unittest.TestCase):

    def test_what_is_sure_depends_on_later_readings(self):
        house = House(((1, 2), (1, 3)), 1)
        self.assertEqual(facts(house, [1]), [(None, None)])
        self.assertEqual(facts(house, [1, 2]), [(True, False)] * 2)
        self.assertEqual(facts(house, [1, 3]), [(False, True)] * 2)
        self.assertIsNone(facts(house, [1, 1]))

    def test_devices_may_run_with_more_starts_than_needed(self):
        # One start is enough, but facts are about all runs.
        self.assertEqual(facts(House(((2, 2), (1,), (1,)), 3), [2]), [(None, None, None)])

    def test_the_items_are_booleans_or_none(self):
        for told in facts(House(*ALIKE), [2, 0, 4, 0, 2]):
            self.assertIs(type(told), tuple)
            for fact in told:
                self.assertTrue(fact is True or fact is False or fact is None)


if __name__ == "__main__":
    unittest.main()
