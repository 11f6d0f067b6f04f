"""The errors of the interface, and what all its names have in common: their files and their arguments."""

import inspect
import unittest

from whatruns import clear, errors, houses, known, lamps, sessions, stories, texts

SUBCLASSES = ["BadHouse", "BadState", "BadRun", "BadReadings", "TooLarge", "BadLamps", "BadPrices", "BadSeen",
              "NothingDone", "BadText"]


class TestErrors(unittest.TestCase):

    def test_the_common_error_is_a_value_error(self):
        self.assertTrue(issubclass(errors.MeterError, ValueError))
        self.assertEqual(errors.MeterError.__bases__, (ValueError,))

    def test_all_others_are_its_direct_subclasses(self):
        for name in SUBCLASSES:
            with self.subTest(name=name):
                self.assertEqual(getattr(errors, name).__bases__, (errors.MeterError,))

    def test_all_are_defined_in_this_file(self):
        for name in SUBCLASSES + ["MeterError"]:
            with self.subTest(name=name):
                self.assertEqual(getattr(errors, name).__module__, "whatruns.errors")

    def test_attributes_are_set(self):
        for name, attribute in [("BadHouse", "part"), ("BadRun", "index"), ("BadReadings", "index"),
                                ("BadSeen", "index"), ("BadText", "row")]:
            for value in (None, 0, 4):
                with self.subTest(name=name, value=value):
                    self.assertEqual(vars(getattr(errors, name)(value)), {attribute: value})


class TestInterface(unittest.TestCase):

    FUNCTIONS = [
        (houses, "reading", ["house", "state"]),
        (houses, "steps", ["house", "state"]),
        (houses, "readings", ["house", "states"]),
        (houses, "starts", ["house", "states"]),
        (known, "tell", ["house"]),
        (known, "does_tell", ["house"]),
        (known, "delay", ["house"]),
        (stories, "find_story", ["house", "shown"]),
        (stories, "fewest_starts", ["house", "shown"]),
        (stories, "facts", ["house", "shown"]),
        (clear, "seen", ["house", "lamps", "state"]),
        (clear, "clearing", ["house", "lamps"]),
        (clear, "does_clear", ["house", "lamps"]),
        (clear, "ticks_to_clear", ["house", "lamps"]),
        (lamps, "light", ["house", "prices"]),
        (lamps, "least_price", ["house", "prices"]),
        (texts, "house_text", ["house"]),
        (texts, "run_text", ["house", "states"]),
        (texts, "read_house", ["text"]),
        (texts, "read_run", ["house", "text"]),
    ]
    CLASSES = [
        (houses, "House", ["profiles", "most"]),
        (known, "Known", ["delay", "ranks", "one", "other"]),
        (known, "Gemini", ["one", "other", "back"]),
        (stories, "Story", ["states", "floors"]),
        (stories, "NoStory", ["spots"]),
        (clear, "Clears", ["ticks", "ranks", "one", "other"]),
        (clear, "Clouds", ["one", "other", "back"]),
        (lamps, "Lamps", ["lamps", "clears", "doubts"]),
        (sessions, "Watch", ["house", "lamps", "idle"]),
    ]
    METHODS = [
        (houses.House, "idle", ["self"]),
        (known.Known, "shows", ["self", "house"]),
        (known.Gemini, "shows", ["self", "house"]),
        (stories.Story, "shows", ["self", "house", "shown"]),
        (stories.NoStory, "shows", ["self", "house", "shown"]),
        (clear.Clears, "shows", ["self", "house", "lamps"]),
        (clear.Clouds, "shows", ["self", "house", "lamps"]),
        (lamps.Lamps, "shows", ["self", "house", "prices"]),
        (sessions.Watch, "see", ["self", "view"]),
        (sessions.Watch, "sure", ["self"]),
        (sessions.Watch, "most_running", ["self"]),
        (sessions.Watch, "undo", ["self"]),
        (sessions.Watch, "branch", ["self"]),
        (sessions.Watch, "trial", ["self"]),
        (sessions.Watch, "tried", ["self", "views"]),
    ]

    def test_functions_and_classes_stand_in_their_files_and_take_their_arguments(self):
        for module, name, arguments in self.FUNCTIONS + self.CLASSES:
            with self.subTest(name=name):
                found = getattr(module, name)
                self.assertEqual(found.__module__, module.__name__)
                self.assertEqual(list(inspect.signature(found).parameters), arguments)

    def test_methods_stand_in_their_own_classes(self):
        for owner, name, arguments in self.METHODS:
            with self.subTest(owner=owner.__name__, name=name):
                self.assertEqual(list(inspect.signature(vars(owner)[name]).parameters), arguments)
        for owner in (houses.House, stories.Story, stories.NoStory, lamps.Lamps, sessions.Watch):
            self.assertIn("__iter__", vars(owner))
        for owner in (houses.House, sessions.Watch):
            self.assertIn("__len__", vars(owner))
        for owner in (houses.House, known.Known, known.Gemini, stories.Story, stories.NoStory, clear.Clears,
                      clear.Clouds, lamps.Lamps):
            self.assertIn("__eq__", vars(owner))
        self.assertIsInstance(vars(houses.House)["most"], property)
        self.assertIsInstance(vars(sessions.Watch)["journal"], property)

    def test_what_stands_after_a_star_is_given_by_keyword_only(self):
        for module, name, _ in self.FUNCTIONS + self.CLASSES:
            kinds = {key: parameter.kind for key, parameter in
                     inspect.signature(getattr(module, name)).parameters.items()}
            only = [key for key in kinds if kinds[key] == inspect.Parameter.KEYWORD_ONLY]
            with self.subTest(name=name):
                self.assertEqual(only, ["idle"] if name == "Watch" else [])
        self.assertIs(inspect.signature(sessions.Watch).parameters["idle"].default, True)

    def test_arguments_can_be_given_by_keyword(self):
        house = houses.House(most=2, profiles=((2, 1), (1, 2)))
        self.assertEqual(house.most, 2)
        self.assertEqual(houses.reading(state=(1, 2), house=house), 4)
        self.assertEqual(houses.steps(state=(1, 2), house=house), [(2, 0)])
        self.assertEqual(houses.readings(states=[(1, 0)], house=house), [2])
        self.assertEqual(houses.starts(states=[(1, 0)], house=house), 1)
        self.assertTrue(known.does_tell(house=house))
        self.assertEqual(known.delay(house=house), 0)
        self.assertTrue(known.tell(house=house).shows(house=house))
        self.assertTrue(known.Known(other=[], one=[], ranks={}, delay=0).shows(house))
        self.assertFalse(known.Gemini(other=[], one=[], back=None).shows(house))
        self.assertTrue(stories.find_story(shown=[2], house=house).shows(shown=[2], house=house))
        self.assertEqual(stories.fewest_starts(shown=[2], house=house), 1)
        self.assertEqual(stories.facts(shown=[2], house=house), [(True, False)])
        self.assertTrue(stories.Story(floors={}, states=[(0, 0)]).shows(house, [0]))
        self.assertTrue(stories.NoStory(spots=[(0, (0, 0))]).shows(house, [4]))

    def test_arguments_of_the_other_modules_can_be_given_by_keyword(self):
        house = houses.House(most=2, profiles=((2,), (2,)))
        self.assertEqual(clear.seen(state=(1, 0), lamps=(1,), house=house), (2, (False,)))
        self.assertTrue(clear.clearing(lamps=(1,), house=house).shows(lamps=(1,), house=house))
        self.assertFalse(clear.does_clear(lamps=(), house=house))
        self.assertEqual(clear.ticks_to_clear(lamps=(0,), house=house), 0)
        self.assertTrue(clear.Clears(other=[], one=[], ranks={}, ticks=0).shows(house, (0,)))
        self.assertFalse(clear.Clouds(other=[], one=[], back=None).shows(house, ()))
        found = lamps.light(prices=(1, 2), house=house)
        self.assertTrue(found.shows(prices=(1, 2), house=house))
        self.assertEqual(lamps.Lamps(doubts=found.doubts, clears=found.clears, lamps=(0,)), found)
        self.assertEqual(lamps.least_price(prices=(2, 2), house=house), 2)
        watch = sessions.Watch(idle=False, lamps=(), house=house)
        self.assertEqual([watch.tried(views=[(2, ())]), watch.see(view=(2, ()))], [[2], 2])
        self.assertEqual(texts.read_house(text=texts.house_text(house=house)), house)
        self.assertEqual(texts.read_run(text=texts.run_text(states=[(1, 0)], house=house), house=house), [(1, 0)])


if __name__ == "__main__":
    unittest.main()
