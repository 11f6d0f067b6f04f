"""Houses, states and runs: points 1, 2 and 3."""

import unittest

from byhand import HOUSES, NO_HOUSES, Table, refused
from whatruns.errors import BadHouse, BadRun, BadState
from whatruns.houses import House, reading, readings, starts, steps
from whatruns.known import Known
from whatruns.stories import NoStory

PROFILES = ((2, 1), (1, 2))


class TestHouse(unittest.TestCase):

    def test_it_has_what_it_was_given(self):
        for profiles, most in HOUSES:
            with self.subTest(profiles=profiles, most=most):
                house = House(profiles, most)
                self.assertEqual(list(house), list(profiles))
                self.assertEqual(len(house), len(profiles))
                self.assertEqual(house.most, most)
                self.assertEqual(house.idle(), (0,) * len(profiles))

    def test_the_limits_themselves_are_allowed(self):
        for profiles in [((1,),), ((9,),), ((1, 9, 1, 9),), ((1,), (1,), (1,)), ((9, 9, 9, 9),) * 3]:
            for most in (1, 2, 3):
                with self.subTest(profiles=profiles, most=most):
                    self.assertEqual(list(House(profiles, most)), list(profiles))

    def test_profiles_that_are_none(self):
        wrong = [None, 3, True, "12", b"12", [], [(1,)], {}, {(1,): 1}, (), ((),), ((1,), ()), ((1,),) * 4, ((1,) * 5,),
                 ((1,), (1, 2, 3, 4, 5)), (1,), (1, 2), ([1],), ([1], (2,)), ((1,), [2]), ("1",), (None,), ((0,),),
                 ((10,),), ((-1,),), ((1, 0),), ((1,), (2, 10)), ((True,),), ((1, True),), ((1,), (2, False)),
                 (("1",),), ((None,),), ((1,), ((1,),)), ((10 ** 30,),), House(((1,),), 1), object()]
        for profiles in wrong:
            with self.subTest(profiles=profiles):
                self.assertEqual(refused(BadHouse, House, profiles, 1).part, "PROFILES")

    def test_most_that_is_none(self):
        for most in [None, 0, 4, -1, 10 ** 30, True, False, "1", b"1", (1,), [1], {}, {1: 1}, object()]:
            with self.subTest(most=most):
                self.assertEqual(refused(BadHouse, House, PROFILES, most).part, "MOST")

    def test_the_profiles_come_first(self):
        self.assertEqual(refused(BadHouse, House, (), 0).part, "PROFILES")
        self.assertEqual(refused(BadHouse, House, None, None).part, "PROFILES")
        self.assertEqual(refused(BadHouse, House, ((True,),), True).part, "PROFILES")

    def test_equality(self):
        house = House(PROFILES, 2)
        self.assertTrue(house == House(((2, 1), (1, 2)), 2))
        self.assertFalse(house != House(((2, 1), (1, 2)), 2))
        for other in [House(PROFILES, 1), House(PROFILES, 3), House(((1, 2), (2, 1)), 2), House(((2, 1),), 2),
                      House(((2, 1), (1, 2), (1,)), 2), House(((2, 1), (1, 3)), 2)]:
            with self.subTest(other=list(other)):
                self.assertFalse(house == other)
                self.assertTrue(house != other)
        self.assertFalse(house == Known(0, {}, [], []))
        self.assertTrue(house != Known(0, {}, [], []))
        self.assertFalse(NoStory([]) == house)
        self.assertTrue(NoStory([]) != house)

    def test_it_is_iterated_over_each_time_anew(self):
        house = House(PROFILES, 2)
        self.assertEqual([(one, other) for one in house for other in house],
                         [(one, other) for one in PROFILES for other in PROFILES])
        self.assertEqual(list(house), list(house))
        list(house).clear()
        self.assertEqual(list(house), list(PROFILES))


class TestStates(unittest.TestCase):

    def test_the_example(self):
        house = House(((2, 1), (1, 2)), 2)
        run = [(1, 0), (2, 1), (0, 2), (1, 0)]
        later = [steps(house, (0, 1)), steps(house, (1, 2)), steps(House(((2, 1), (1, 2)), 1), (1, 0))]
        found = [list(house), len(house), reading(house, (1, 2)), later, readings(house, run), starts(house, run)]
        self.assertEqual(found, [[(2, 1), (1, 2)], 2, 4, [[(0, 2), (1, 2)], [(2, 0)], [(2, 0)]], [2, 2, 2, 2], 3])

    def test_the_meter_shows_the_sum_of_what_runs(self):
        house = House(((1, 2, 3, 4), (5,), (6, 7)), 3)
        for state, watts in [((0, 0, 0), 0), ((1, 0, 0), 1), ((4, 0, 0), 4), ((0, 1, 0), 5), ((0, 0, 2), 7),
                             ((3, 1, 1), 14), ((2, 1, 2), 14)]:
            with self.subTest(state=state):
                self.assertEqual(reading(house, state), watts)

    def test_a_device_with_one_tick_is_idle_after_it(self):
        house = House(((3,),), 1)
        self.assertEqual(steps(house, (0,)), [(0,), (1,)])
        self.assertEqual(steps(house, (1,)), [(0,)])

    def test_a_device_runs_on_to_its_last_tick(self):
        house = House(((3, 1, 1, 2),), 1)
        self.assertEqual([steps(house, (tick,)) for tick in range(5)], [[(0,), (1,)], [(2,)], [(3,)], [(4,)], [(0,)]])

    def test_no_more_devices_run_than_can(self):
        profiles = ((1, 1), (1, 1), (1, 1))
        self.assertEqual(steps(House(profiles, 1), (0, 0, 0)), [(0, 0, 0), (0, 0, 1), (0, 1, 0), (1, 0, 0)])
        self.assertEqual(steps(House(profiles, 1), (0, 1, 0)), [(0, 2, 0)])
        self.assertEqual(steps(House(profiles, 1), (0, 2, 0)), [(0, 0, 0), (0, 0, 1), (1, 0, 0)])
        self.assertEqual(steps(House(profiles, 2), (0, 1, 0)), [(0, 2, 0), (0, 2, 1), (1, 2, 0)])
        self.assertEqual(steps(House(profiles, 2), (1, 2, 0)), [(2, 0, 0), (2, 0, 1)])
        self.assertEqual(len(steps(House(profiles, 3), (0, 0, 0))), 8)
        self.assertEqual(steps(House(((1, 1),), 3), (1,)), [(2,)])

    def test_all_states_of_some_houses(self):
        for profiles, most in HOUSES:
            house, table = House(profiles, most), Table(profiles, most)
            for state in table.states:
                with self.subTest(profiles=profiles, most=most, state=state):
                    self.assertEqual(steps(house, state), sorted(table.after[state]))
                    self.assertEqual(reading(house, state), table.total[state])

    def test_lists_are_new(self):
        house = House(PROFILES, 2)
        steps(house, (0, 0)).clear()
        self.assertEqual(steps(house, (0, 0)), [(0, 0), (0, 1), (1, 0), (1, 1)])
        readings(house, [(1, 0)]).clear()
        self.assertEqual(readings(house, [(1, 0)]), [2])

    def test_what_is_no_state(self):
        house = House(((2, 1), (1, 2, 3)), 1)
        wrong = [None, 0, True, "00", b"00", [0, 0], [], {}, {0: 0, 1: 0}, (), (0,), (0, 0, 0), (-1, 0), (0, -1),
                 (3, 0), (0, 4), (1, 1), (2, 3), (True, 0), (0, True), (False, False), ("0", 0), (0, None), ((0,), 0),
                 ([], 0), (10 ** 30, 0), house, object()]
        for state in wrong:
            for function in (reading, steps):
                with self.subTest(state=state, function=function.__name__):
                    refused(BadState, function, house, state)

    def test_the_house_comes_first(self):
        for house in NO_HOUSES:
            for function, rest in [(reading, (0,)), (reading, None), (steps, (0,)), (steps, None), (readings, []),
                                   (readings, None), (starts, []), (starts, [(5,)])]:
                with self.subTest(house=house, function=function.__name__, rest=rest):
                    self.assertIsNone(refused(BadHouse, function, house, rest).part)


class TestRuns(unittest.TestCase):

    def test_the_empty_run(self):
        house = House(PROFILES, 2)
        for states in ([], ()):
            self.assertEqual(readings(house, states), [])
            self.assertEqual(starts(house, states), 0)

    def test_lists_and_tuples(self):
        house = House(PROFILES, 2)
        run = [(0, 0), (1, 1), (2, 2), (0, 0), (0, 1)]
        self.assertEqual(readings(house, run), [0, 3, 3, 0, 1])
        self.assertEqual(readings(house, tuple(run)), [0, 3, 3, 0, 1])
        self.assertEqual(starts(house, run), 3)
        self.assertEqual(starts(house, tuple(run)), 3)
        self.assertEqual(run, [(0, 0), (1, 1), (2, 2), (0, 0), (0, 1)])

    def test_starts_are_counted_each_time(self):
        house = House(((1,), (2, 2)), 2)
        self.assertEqual(starts(house, [(0, 0)]), 0)
        self.assertEqual(starts(house, [(1, 1)]), 2)
        self.assertEqual(starts(house, [(1, 0), (0, 0), (1, 0), (0, 0), (1, 1), (0, 2), (1, 0)]), 5)

    def test_all_short_runs_of_some_houses(self):
        for profiles, most in HOUSES[:8]:
            house, table = House(profiles, most), Table(profiles, most)
            runs = [[]]
            for _ in range(3):
                runs = [run + [later] for run in runs for later in table.after[run[-1] if run else table.idle]]
            for run in runs:
                with self.subTest(profiles=profiles, most=most, run=run):
                    self.assertEqual(readings(house, run), table.totals(run))
                    self.assertEqual(starts(house, run), table.starts(run))

    def test_what_is_neither_a_list_nor_a_tuple(self):
        house = House(PROFILES, 2)
        for states in [None, 0, True, "", "ab", b"", {}, {(0, 0): 1}, set(), range(0), iter([]), house, object()]:
            for function in (readings, starts):
                with self.subTest(states=states, function=function.__name__):
                    self.assertIsNone(refused(BadRun, function, house, states).index)

    def test_the_first_item_that_cannot_come_then(self):
        house = House(((2, 1), (1,)), 1)
        wrong = [
            ([(2, 0)], 0),
            ([(1, 1)], 0),
            ([None], 0),
            ([[0, 0]], 0),
            ([(0, 0, 0)], 0),
            ([(True, 0)], 0),
            ([(1, False)], 0),
            ([(0, 0), (False, 0)], 1),
            ([(0, 0), 0, None], 1),
            ([(1, 0), (1, 0)], 1),
            ([(1, 0), (0, 0)], 1),
            ([(1, 0), (3, 0)], 1),
            ([(1, 0), (2, 1)], 1),
            ([(1, 0), (2, 0), (1, 0)], 2),
            ([(1, 0), (2, 0), (0, 1), (0, 1), None], 3),
            ([(0, 1), (1, 0), (2, 0), (0, 0), ([], 0)], 4),
            ([(0, 1), (1, 1), (2, 0), (2, 0)], 1),
            ([(0, 0), (0, 0), (0, 0), house], 3),
        ]
        for states, index in wrong:
            for given in (states, tuple(states)):
                for function in (readings, starts):
                    with self.subTest(states=given, function=function.__name__):
                        found = refused(BadRun, function, house, given).index
                        self.assertEqual((type(found), found), (int, index))

    def test_all_wrong_continuations_of_some_houses(self):
        for profiles, most in HOUSES[:8]:
            house, table = House(profiles, most), Table(profiles, most)
            for first in table.after[table.idle]:
                for state in table.states:
                    with self.subTest(profiles=profiles, most=most, first=first, state=state):
                        if state in table.after[first]:
                            self.assertEqual(readings(house, [first, state]), table.totals([first, state]))
                        else:
                            self.assertEqual(refused(BadRun, readings, house, [first, state]).index, 1)


if __name__ == "__main__":
    unittest.main()
