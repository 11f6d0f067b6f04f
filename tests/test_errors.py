"""The errors of the interface, and what all its names have in common: their files and their arguments."""

import inspect
import unittest

from whatruns import errors, houses, known, stories

SUBCLASSES = ["BadHouse", "BadState", "BadRun", "BadReadings", "TooLarge", "BadLamps", "BadPrices", "BadSeen",
              "NothingDone", "BadText"]


class TestErrors(unittest.TestCase):

    def test_the_common_error_is_a_value_error(self):
        self.assertTrue(issubclass(errors.MeterError, ValueError))
        self.assertEqual(errors.MeterError.__bases__, (ValueError,))

    def test_all_others_are_its_direct_subclasses(self):
        for name in SUBCLASSES:
            with self.subTest(name=name):
                self.assertEqual(getattr(errors, name).__bases__, (errors.MeterError,))

    def test_all_are_defined_in_this_file(self):
        for name in SUBCLASSES + ["MeterError"]:
            with self.subTest(name=name):
                self.assertEqual(getattr(errors, name).__module__, "whatruns.errors")

    def test_attributes_are_set(self):
        for name, attribute in [("BadHouse", "part"), ("BadRun", "index"), ("BadReadings", "index"),
                                ("BadSeen", "index"), ("BadText", "row")]:
            for value in (None, 0, 4):
                with self.subTest(name=name, value=value):
                    self.assertEqual(vars(getattr(errors, name)(value)), {attribute: value})


class TestInterface(unittest.TestCase):

    FUNCTIONS = [
        (houses, "reading", ["house", "state"]),
        (houses, "steps", ["house", "state"]),
        (houses, "readings", ["house", "states"]),
        (houses, "starts", ["house", "states"]),
        (known, "tell", ["house"]),
        (known, "does_tell", ["house"]),
        (known, "delay", ["house"]),
        (stories, "find_story", ["house", "shown"]),
        (stories, "fewest_starts", ["house", "shown"]),
        (stories, "facts", ["house", "shown"]),
    ]
    CLASSES = [
        (houses, "House", ["profiles", "most"]),
        (known, "Known", ["delay", "ranks", "one", "other"]),
        (known, "Gemini", ["one", "other", "back"]),
        (stories, "Story", ["states", "floors"]),
        (stories, "NoStory", ["spots"]),
    ]
    METHODS = [
        (houses.House, "idle", ["self"]),
        (known.Known, "shows", ["self", "house"]),
        (known.Gemini, "shows", ["self", "house"]),
        (stories.Story, "shows", ["self", "house", "shown"]),
        (stories.NoStory, "shows", ["self", "house", "shown"]),
    ]

    def test_functions_and_classes_stand_in_their_files_and_take_their_arguments(self):
        for module, name, arguments in self.FUNCTIONS + self.CLASSES:
            with self.subTest(name=name):
                found = getattr(module, name)
                self.assertEqual(found.__module__, module.__name__)
                self.assertEqual(list(inspect.signature(found).parameters), arguments)

    def test_methods_stand_in_their_own_classes(self):
        for owner, name, arguments in self.METHODS:
            with self.subTest(owner=owner.__name__, name=name):
                self.assertEqual(list(inspect.signature(vars(owner)[name]).parameters), arguments)
        for owner in (houses.House, stories.Story, stories.NoStory):
            self.assertIn("__iter__", vars(owner))
        self.assertIn("__len__", vars(houses.House))
        self.assertIsInstance(vars(houses.House)["most"], property)

    def test_arguments_can_be_given_by_keyword(self):
        house = houses.House(most=2, profiles=((2, 1), (1, 2)))
        self.assertEqual(house.most, 2)
        self.assertEqual(houses.reading(state=(1, 2), house=house), 4)
        self.assertEqual(houses.steps(state=(1, 2), house=house), [(2, 0)])
        self.assertEqual(houses.readings(states=[(1, 0)], house=house), [2])
        self.assertEqual(houses.starts(states=[(1, 0)], house=house), 1)
        self.assertTrue(known.does_tell(house=house))
        self.assertEqual(known.delay(house=house), 0)
        self.assertTrue(known.tell(house=house).shows(house=house))
        self.assertTrue(known.Known(other=[], one=[], ranks={}, delay=0).shows(house))
        self.assertFalse(known.Gemini(other=[], one=[], back=None).shows(house))
        self.assertTrue(stories.find_story(shown=[2], house=house).shows(shown=[2], house=house))
        self.assertEqual(stories.fewest_starts(shown=[2], house=house), 1)
        self.assertEqual(stories.facts(shown=[2], house=house), [(True, False)])
        self.assertTrue(stories.Story(floors={}, states=[(0, 0)]).shows(house, [0]))
        self.assertTrue(stories.NoStory(spots=[(0, (0, 0))]).shows(house, [4]))


if __name__ == "__main__":
    unittest.main()
