"""Point 1, over the whole program: what holds of all functions and classes of the interface."""

import copy
import unittest

from byhand import refused
from whatruns.clear import Clears, Clouds, clearing, seen, ticks_to_clear
from whatruns.errors import (BadHouse, BadLamps, BadPrices, BadReadings, BadRun, BadSeen, BadState, BadText, MeterError,
                             NothingDone)
from whatruns.houses import House, reading, readings, starts, steps
from whatruns.known import Gemini, Known, tell
from whatruns.lamps import Lamps, light
from whatruns.sessions import Watch
from whatruns.stories import NoStory, Story, facts, find_story
from whatruns.texts import house_text, read_house, read_run, run_text

MIXED = (((2, 1), (1, 2)), 2)
ALIKE = (((2,), (2,)), 2)


def one_of_each_class():
    """Objects of all classes, with the same attributes where that can be."""
    clears = Clears(0, {}, [], [])
    return [House(*MIXED), Known(0, {}, [], []), Gemini([], [], 0), Story([], {}), NoStory([]), clears,
            Clouds([], [], 0), Lamps((), clears, {}), Watch(House(*MIXED), ())]


class TestEquality(unittest.TestCase):

    def test_objects_of_different_classes_are_not_equal(self):
        for at, one in enumerate(one_of_each_class()):
            for beside, other in enumerate(one_of_each_class()):
                if at != beside:
                    with self.subTest(one=type(one).__name__, other=type(other).__name__):
                        self.assertIs(one == other, False)
                        self.assertIs(one != other, True)

    def test_objects_with_the_same_attributes_are_equal(self):
        for one, other in zip(one_of_each_class()[:-1], one_of_each_class()):
            with self.subTest(one=type(one).__name__):
                self.assertIs(one == other, True)
                self.assertIs(one != other, False)

    def test_each_attribute_counts(self):
        for one in one_of_each_class()[1:-1]:
            for name in vars(one):
                other = copy.copy(one)
                setattr(other, name, "changed")
                with self.subTest(one=type(one).__name__, name=name):
                    self.assertIs(one == other, False)
                    self.assertIs(other != one, True)
                    setattr(one, name, "changed")
                    self.assertIs(one == other, True)

    def test_attributes_are_those_of_the_interface(self):
        names = {"Known": ["delay", "ranks", "one", "other"], "Gemini": ["one", "other", "back"],
                 "Story": ["states", "floors"], "NoStory": ["spots"], "Clears": ["ticks", "ranks", "one", "other"],
                 "Clouds": ["one", "other", "back"], "Lamps": ["lamps", "clears", "doubts"]}
        for one in one_of_each_class()[1:-1]:
            self.assertEqual(list(vars(one)), names[type(one).__name__])


class TestBooleans(unittest.TestCase):
    """Booleans are not integers, although Python takes them for equal."""

    def test_in_arguments(self):
        house = House(((1,), (1, 2)), 2)
        for error, function, arguments in [
                (BadHouse, House, (((True,),), 1)), (BadHouse, House, (((1,),), True)),
                (BadState, reading, (house, (True, 0))), (BadState, steps, (house, (1, False))),
                (BadRun, readings, (house, [(True, 0)])), (BadRun, starts, (house, [(0, 0), (0, True)])),
                (BadRun, run_text, (house, [(False, 0)])), (BadReadings, find_story, (house, [True])),
                (BadReadings, facts, (house, (0, False))), (BadLamps, clearing, (house, (True,))),
                (BadLamps, ticks_to_clear, (house, (False,))), (BadLamps, seen, (house, (0, True), (0, 0))),
                (BadState, seen, (house, (0, 1), (0, True))), (BadLamps, Watch, (house, (False, True))),
                (BadPrices, light, (house, (True, 1))), (BadPrices, light, (house, (1, True)))]:
            with self.subTest(function=function.__name__, arguments=arguments[1:]):
                refused(error, function, *arguments)

    def test_in_what_is_seen(self):
        watch = Watch(House(*ALIKE), (0,), idle=False)
        for view in [(False, (False,)), (0, (0,)), (2, (1,)), (2, (0,))]:
            with self.subTest(view=view):
                refused(BadSeen, watch.see, view)
                refused(BadSeen, watch.tried, [view])
        self.assertEqual(watch.see((0, (False,))), 1)

    def test_as_keys_of_dicts_and_within_attributes(self):
        slow = House(((1, 1),), 1)
        self.assertTrue(Clears(1, {((1,), (2,)): 0}, [(1,)], [(2,)]).shows(slow, ()))
        self.assertFalse(Clears(1, {((True,), (2,)): 0}, [(1,)], [(2,)]).shows(slow, ()))
        self.assertFalse(Clears(1, {((1,), (2,)): False}, [(1,)], [(2,)]).shows(slow, ()))
        self.assertFalse(Clears(1, {((1,), (2,)): 0}, [(True,)], [(2,)]).shows(slow, ()))
        house = House(((1, 2), (1, 3)), 1)
        self.assertTrue(Known(1, {((0, 1), (1, 0)): 0}, [(0, 1)], [(1, 0)]).shows(house))
        self.assertFalse(Known(1, {((False, 1), (1, 0)): 0}, [(0, 1)], [(1, 0)]).shows(house))
        self.assertFalse(Known(1, {((0, 1), (1, 0)): 0}, [(0, True)], [(1, 0)]).shows(house))
        self.assertTrue(Story([(1,)], {(0, (0,)): 1}).shows(slow, [1]))
        self.assertFalse(Story([(1,)], {(False, (0,)): 1}).shows(slow, [1]))
        self.assertFalse(Story([(1,)], {(0, (False,)): 1}).shows(slow, [1]))
        self.assertTrue(NoStory([(0, (0,))]).shows(slow, [2]))
        self.assertFalse(NoStory([(False, (0,))]).shows(slow, [2]))
        like = House(*ALIKE)
        found = light(like, (3, 1))
        self.assertFalse(Lamps((True,), found.clears, found.doubts).shows(like, (3, 1)))
        dearer = House(((1, 1), (1, 1), (1, 1)), 3)
        found = light(dearer, (1, 2, 3))
        self.assertTrue(found.shows(dearer, (1, 2, 3)))
        changed = {some if some != (1,) else (True,): found.doubts[some] for some in found.doubts}
        self.assertFalse(Lamps(found.lamps, found.clears, changed).shows(dearer, (1, 2, 3)))

    def test_what_is_returned(self):
        house = House(*ALIKE)
        self.assertIs(type(seen(house, (0,), (1, 0))[0]), int)
        self.assertIs(seen(house, (0,), (1, 0))[1][0], True)
        self.assertIs(tell(house).shows(house), True)
        self.assertIs(Clouds([], [], None).shows(house, ()), False)
        self.assertIs(Watch(house, ()).sure()[0], False)
        self.assertEqual([type(tick) for tick in read_run(house, "2: 1 0\n")[0]], [int, int])
        self.assertEqual([type(watt) for profile in read_house("most 1\ndraws 1 2\n") for watt in profile], [int, int])


class TestArguments(unittest.TestCase):

    def test_they_are_not_modified(self):
        house, shown, states = House(*MIXED), [2, 1, 1], [(1, 0), (2, 0), (0, 1)]
        views = [(2, ()), (1, ())]
        given = (list(house), shown[:], states[:], views[:])
        for found in (tell(house), clearing(house, ()), clearing(house, (1,))):
            found.shows(house) if isinstance(found, (Known, Gemini)) else found.shows(house, ())
        light(house, (1, 2)).shows(house, (1, 2))
        readings(house, states), starts(house, states), run_text(house, states), house_text(house)
        find_story(house, shown).shows(house, shown)
        facts(house, shown)
        watch = Watch(house, ())
        watch.tried(views)
        watch.see((3, ()))
        self.assertEqual((list(house), shown, states, views), given)
        self.assertEqual((house.most, house), (2, House(*MIXED)))

    def test_lists_and_dicts_are_not_kept(self):
        one, other, ranks = [(1,)], [(2,)], {((1,), (2,)): 0}
        made = [Known(1, ranks, one, other), Gemini(one, other, None), Clears(1, ranks, one, other),
                Clouds(one, other, None), Story(one, {}), NoStory(one), Lamps((), None, ranks)]
        before = [copy.deepcopy(vars(found)) for found in made]
        for given in (one, other, ranks):
            given.clear()
        self.assertEqual([vars(found) for found in made], before)

    def test_what_is_returned_is_new(self):
        house = House(*ALIKE)
        watch = Watch(house, ())
        watch.see((2, ()))
        for made in [lambda: steps(house, (0, 0)), lambda: readings(house, [(1, 0)]), lambda: facts(house, [2]),
                     lambda: watch.journal, lambda: watch.tried([(0, ())]), lambda: read_run(house, "2: 1 0\n"),
                     lambda: tell(house).one, lambda: clearing(house, ()).other, lambda: light(house, (1, 1)).doubts,
                     lambda: find_story(house, [2]).floors, lambda: find_story(house, [1]).spots,
                     lambda: clearing(House(((1, 1),), 1), ()).ranks, lambda: tell(House(((1, 2), (1, 3)), 1)).ranks]:
            found = made()
            before = copy.deepcopy(found)
            self.assertTrue(found)
            found.clear()
            self.assertEqual(made(), before)

    def test_a_refused_call_changes_nothing(self):
        watch = Watch(House(*ALIKE), ())
        watch.see((2, ()))
        with watch.trial():
            for call, arguments in [(watch.see, [(3, ())]), (watch.see, [None]), (watch.undo, []),
                                    (watch.tried, [None]), (watch.tried, [[(0, ()), (3, ())]])]:
                with self.assertRaises(MeterError):
                    call(*arguments)
                self.assertEqual((list(watch), watch.journal), ([(0, 1), (1, 0)], [(2, ())]))
        self.assertEqual(watch.undo(), (2, ()))
        refused(NothingDone, watch.undo)

    def test_houses_never_change(self):
        house = House(*MIXED)
        with self.assertRaises(AttributeError):
            house.most = 1
        self.assertEqual((list(house), house.most), ([(2, 1), (1, 2)], 2))

    def test_errors_are_those_of_the_package_whatever_the_argument_is(self):
        for strange in [None, True, 0, -1, "", "x", b"x", [], (), {}, set(), object(), type, len, House(*ALIKE),
                        Watch(House(*ALIKE), ()), [[]], ((),), [None], (None,), {None: None}, range(3), iter(())]:
            with self.subTest(strange=strange):
                for error, function, arguments in [
                        (BadHouse, House, (strange, strange)), (BadHouse, House, (((1,),), strange)),
                        (BadState, reading, (House(*ALIKE), strange)),
                        (BadState, seen, (House(*ALIKE), (), strange)),
                        (BadPrices, light, (House(*ALIKE), strange)),
                        (BadSeen, Watch(House(*ALIKE), ()).see, (strange,))]:
                    refused(error, function, *arguments)
                if not isinstance(strange, House):
                    for function in (tell, house_text):
                        refused(BadHouse, function, strange)
                    refused(BadHouse, Watch, strange, strange)
                if strange != ():
                    refused(BadLamps, clearing, House(*ALIKE), strange)
                if strange not in ((), []):
                    refused(BadRun, run_text, House(*ALIKE), strange)
                    refused(BadSeen, Watch(House(*ALIKE), ()).tried, strange)
                refused(BadReadings, facts, House(*ALIKE), strange)
                if strange != "":
                    refused(BadText, read_run, House(*ALIKE), strange)
                refused(BadText, read_house, strange)


class TestIteration(unittest.TestCase):

    def test_each_time_anew(self):
        watch = Watch(House(*ALIKE), (), idle=False)
        clears, clouds = Clears(0, {}, [], []), Clouds([], [], None)
        for found, items in [(House(*MIXED), [(2, 1), (1, 2)]), (Story([(1, 0), (0, 0)], {}), [(1, 0), (0, 0)]),
                             (NoStory([(0, (0,)), (1, (1,))]), [(0, (0,)), (1, (1,))]),
                             (Lamps((0, 1), clears, {(): clouds, (1,): clouds}), [((), clouds), ((1,), clouds)]),
                             (watch, [(0, 0), (0, 1), (1, 0), (1, 1)])]:
            with self.subTest(found=type(found).__name__):
                self.assertEqual(list(found), items)
                self.assertEqual([one for one in found for other in found], [one for one in items for other in items])


if __name__ == "__main__":
    unittest.main()
