"""The cheapest lamps: points 1 and 8."""

import unittest
from itertools import product
from unittest import mock

from byhand import HOUSES, NO_HOUSES, Lit, all_lamps, cost, ordered_choices, refused
from whatruns import clear
from whatruns.clear import Clears, Clouds, clearing
from whatruns.errors import BadHouse, BadPrices, TooLarge
from whatruns.houses import House
from whatruns.lamps import Lamps, least_price, light
from whatruns.stories import NoStory

ALIKE = (((2,), (2,)), 2)
# Without lamps, and with one for the last device, it is not always known what runs; with any other choice it is.
THREE = (((1, 1), (1, 1, 1), (2,)), 1)
# Two lamps are needed, any two.
TWO_NEEDED = (((9,), (9, 1), (9, 9, 9)), 3)
AT_ONCE = (((2, 1),), 3)

# Just as many blurs without lamps as the limit of point 7 allows, and just one more.
AT_LIMIT = (((1, 1, 1), (1, 1, 1, 4), (1, 1, 2, 3)), 3)
ABOVE_LIMIT = (((1, 1, 1), (2, 2, 2, 4), (2, 2, 2, 5)), 3)

# What are no prices for a house with two devices, whatever else it is.
NO_PRICES = [None, 0, 5, True, "12", b"12", [], [1, 2], {}, {1: 1, 2: 2}, {1, 2}, range(1, 3), object(), (), (1,),
             (1, 2, 3), (0, 1), (1, 0), (10, 1), (1, 10), (-1, 1), (True, 1), (1, True), (1, False), (None, 1),
             (1, "2"), ((1,), 1), (1, [2]), (10 ** 30, 1)]


def by_hand(profiles, most, prices):
    """The first choice of lamps with which the house clears, and the choices that cost less, in order."""
    choices = ordered_choices(profiles, prices)
    first = next(lamps for lamps in choices if isinstance(Lit(profiles, most, lamps).ticks(), int))
    return first, [lamps for lamps in choices if cost(prices, lamps) < cost(prices, first)]


class TestLight(unittest.TestCase):

    def test_the_example(self):
        like = House(((2,), (2,)), 2)
        found = light(like, (3, 1))
        self.assertEqual([found.lamps, found.clears.ticks, [some for some, doubt in found], found.shows(like, (3, 1)),
                          found.shows(like, (1, 3)), least_price(like, (2, 2))], [(1,), 0, [()], True, False, 2])

    def check(self, profiles, most, prices):
        with self.subTest(profiles=profiles, most=most, prices=prices):
            house, found = House(profiles, most), light(House(profiles, most), prices)
            lamps, cheaper = by_hand(profiles, most, prices)
            self.assertIs(type(found), Lamps)
            self.assertEqual(found.lamps, lamps)
            self.assertEqual(least_price(house, prices), cost(prices, lamps))
            self.assertEqual(list(found.doubts), cheaper)
            self.assertEqual([some for some, doubt in found], cheaper)
            clears, table = found.clears, Lit(profiles, most, lamps)
            self.assertIs(type(clears), Clears)
            self.assertTrue(table.shows_clears(clears.ticks, clears.ranks, clears.one, clears.other))
            for some, doubt in found:
                self.assertIs(type(doubt), Clouds)
                self.assertTrue(Lit(profiles, most, some).shows_clouds(doubt.one, doubt.other, doubt.back))
            self.assertIs(found.shows(house, prices), True)

    def test_some_houses_with_some_prices(self):
        for profiles, most in HOUSES:
            for prices in [(1, 1, 1), (9, 9, 9), (1, 2, 3), (3, 2, 1), (2, 9, 1), (1, 1, 2), (4, 1, 2)]:
                self.check(profiles, most, prices[:len(profiles)])

    def test_all_small_prices(self):
        for profiles, most in [ALIKE, THREE, TWO_NEEDED, AT_ONCE]:
            for prices in product((1, 2, 3, 9), repeat=len(profiles)):
                self.check(profiles, most, prices)

    def test_several_cheapest_choices(self):
        # By the sum of the prices, then by the length, then as tuples.
        for prices, lamps, cheaper in [((1, 1, 1), (0,), [()]),
                                       ((2, 1, 1), (1,), [()]),
                                       ((2, 2, 1), (0,), [(), (2,)]),
                                       ((3, 2, 1), (1,), [(), (2,)]),
                                       ((9, 9, 9), (0,), [()])]:
            with self.subTest(prices=prices):
                found = light(House(*THREE), prices)
                self.assertEqual((found.lamps, list(found.doubts)), (lamps, cheaper))
        for prices, lamps, cheaper in [((1, 1, 1), (0, 1), [(), (0,), (1,), (2,)]),
                                       ((3, 1, 2), (1, 2), [(), (1,), (2,)]),
                                       ((3, 2, 1), (1, 2), [(), (2,), (1,)]),
                                       ((9, 1, 1), (1, 2), [(), (1,), (2,)]),
                                       ((1, 9, 1), (0, 2), [(), (0,), (2,)]),
                                       ((2, 3, 3), (0, 1), [(), (0,), (1,), (2,)])]:
            with self.subTest(prices=prices):
                found = light(House(*TWO_NEEDED), prices)
                self.assertEqual((found.lamps, list(found.doubts)), (lamps, cheaper))

    def test_choices_that_cost_as_much_are_not_among_the_doubts(self):
        # A lamp for the last device costs as much and stands before the two that are enough, but is no doubt.
        profiles, most = ((1, 1), (1, 1), (1, 1)), 3
        self.assertEqual([lamps for lamps in all_lamps(profiles) if Lit(profiles, most, lamps).ticks() is not None],
                         [(0, 1), (0, 2), (1, 2), (0, 1, 2)])
        found = light(House(profiles, most), (1, 2, 3))
        self.assertEqual((found.lamps, list(found.doubts)), ((0, 1), [(), (0,), (1,)]))
        self.assertTrue(found.shows(House(profiles, most), (1, 2, 3)))

    def test_no_lamps_are_needed(self):
        found = light(House(*AT_ONCE), (7,))
        self.assertEqual((found.lamps, found.doubts, list(found)), ((), {}, []))
        self.assertEqual(least_price(House(*AT_ONCE), (7,)), 0)

    def test_every_answer_is_new(self):
        house = House(*ALIKE)
        found = light(house, (3, 1))
        found.doubts.clear()
        found.clears.ranks[((0, 1), (1, 0))] = 5
        found.lamps = ()
        self.assertTrue(light(house, (3, 1)).shows(house, (3, 1)))

    def test_prices_that_are_none(self):
        house = House(*ALIKE)
        shows = Lamps((), Clears(0, {}, [], []), {}).shows
        for prices in NO_PRICES:
            for function in (light, least_price, shows):
                with self.subTest(prices=prices, function=function.__name__):
                    refused(BadPrices, function, house, prices)
        for prices in [(1, 9), (9, 1)]:
            self.assertEqual(least_price(house, prices), 1)

    def test_the_house_comes_first(self):
        shows = Lamps((), Clears(0, {}, [], []), {}).shows
        for house in NO_HOUSES:
            for prices in [(1,), (), None, (0,)]:
                for function in (light, least_price, shows):
                    with self.subTest(house=house, prices=prices, function=function.__name__):
                        self.assertIsNone(refused(BadHouse, function, house, prices).part)


class TestTooLarge(unittest.TestCase):

    def test_a_house_with_too_many_blurs(self):
        for function in (light, least_price):
            with self.subTest(function=function.__name__):
                refused(TooLarge, function, House(*ABOVE_LIMIT), (1, 1, 1))
                refused(TooLarge, function, House(((1, 1, 1, 1),) * 3, 3), (1, 1, 1))
        self.assertTrue(light(House(*AT_LIMIT), (1, 1, 1)).shows(House(*AT_LIMIT), (1, 1, 1)))

    def test_prices_come_before_too_many_blurs(self):
        for prices in [(1, 1), (1, 1, 0), None]:
            for function in (light, least_price):
                with self.subTest(prices=prices, function=function.__name__):
                    refused(BadPrices, function, House(*ABOVE_LIMIT), prices)

    def test_shows_knows_no_limit(self):
        with mock.patch.object(clear, "MOST_BLURS", 10 ** 6):
            found = light(House(*ABOVE_LIMIT), (1, 2, 3))
        self.assertEqual((found.lamps, list(found.doubts)), by_hand(*ABOVE_LIMIT, (1, 2, 3)))
        self.assertTrue(found.shows(House(*ABOVE_LIMIT), (1, 2, 3)))

    def test_just_so_many_blurs_are_allowed(self):
        for profiles, most in HOUSES:
            # Of all choices, the first one, without lamps, has the most blurs.
            house, prices = House(profiles, most), (3, 1, 2)[:len(profiles)]
            many = len(Lit(profiles, most, ()).blurs())
            with self.subTest(profiles=profiles, most=most, many=many):
                with mock.patch.object(clear, "MOST_BLURS", many):
                    self.assertTrue(light(house, prices).shows(house, prices))
                with mock.patch.object(clear, "MOST_BLURS", many - 1):
                    refused(TooLarge, light, house, prices)


class TestLamps(unittest.TestCase):

    def test_attributes(self):
        clears, clouds = Clears(0, {}, [], []), Clouds([(0, 0), (0, 1)], [(0, 0), (1, 0)], None)
        doubts = {(): clouds}
        found = Lamps((1,), clears, doubts)
        self.assertEqual((found.lamps, found.clears, found.doubts), ((1,), clears, {(): clouds}))
        doubts.clear()
        self.assertEqual(found.doubts, {(): clouds})
        found.doubts.clear()
        found.doubts[(0,)] = clouds
        self.assertEqual(doubts, {})

    def test_equality(self):
        clears, clouds = Clears(0, {}, [], []), Clouds([(0, 0), (0, 1)], [(0, 0), (1, 0)], None)
        other = Clouds([(0, 0), (1, 0)], [(0, 0), (0, 1)], None)
        found = Lamps((1,), clears, {(): clouds, (0,): other})
        same = Lamps((1,), Clears(0, {}, [], []), {(0,): other, (): Clouds([(0, 0), (0, 1)], [(0, 0), (1, 0)], None)})
        self.assertTrue(found == same)
        self.assertFalse(found != same)
        for changed in [Lamps((0,), clears, {(): clouds, (0,): other}), Lamps((1,), clears, {(): clouds}),
                        Lamps((1,), Clears(1, {}, [], []), {(): clouds, (0,): other}),
                        Lamps((1,), clears, {(): clouds, (0,): clouds}), Lamps((1,), clears, {}), clears, clouds,
                        House(*ALIKE), NoStory([])]:
            with self.subTest(changed=type(changed).__name__):
                self.assertFalse(found == changed)
                self.assertTrue(found != changed)
                self.assertFalse(changed == found)
                self.assertTrue(changed != found)

    def test_it_gives_its_doubts_in_the_order_of_its_dict_each_time_anew(self):
        one, other = Clouds([(0, 0), (0, 1)], [(0, 0), (1, 0)], None), Clouds([], [], None)
        found = Lamps((0, 1), Clears(0, {}, [], []), {(1,): other, (): one})
        self.assertEqual(list(found), [((1,), other), ((), one)])
        self.assertEqual(len([(first, second) for first in found for second in found]), 4)
        found.doubts[(0,)] = one
        self.assertEqual(list(found), [((1,), other), ((), one), ((0,), one)])
        self.assertEqual(list(Lamps((), Clears(0, {}, [], []), {})), [])

    def test_the_choice_need_only_be_one_of_the_cheapest(self):
        house, prices = House(*THREE), (2, 2, 1)
        found = light(house, prices)
        self.assertEqual(found.lamps, (0,))
        self.assertTrue(Lamps((1,), clearing(house, (1,)), found.doubts).shows(house, prices))
        self.assertFalse(Lamps((0, 2), clearing(house, (0, 2)), found.doubts).shows(house, prices))
        self.assertFalse(Lamps((1,), clearing(house, (1,)), found.doubts).shows(house, (1, 2, 1)))
        longer = light(House(*TWO_NEEDED), (1, 1, 2))
        self.assertEqual(longer.lamps, (0, 1))
        for lamps, shown in [((0, 1), True), ((0, 2), False), ((1, 2), False), ((0, 1, 2), False)]:
            with self.subTest(lamps=lamps):
                clears = clearing(House(*TWO_NEEDED), lamps)
                self.assertIs(Lamps(lamps, clears, longer.doubts).shows(House(*TWO_NEEDED), (1, 1, 2)), shown)

    def test_the_doubts_are_exactly_the_choices_that_cost_less(self):
        house, prices = House(*TWO_NEEDED), (3, 1, 2)
        found = light(house, prices)
        self.assertEqual((found.lamps, list(found.doubts)), ((1, 2), [(), (1,), (2,)]))
        backwards = {some: found.doubts[some] for some in reversed(list(found.doubts))}
        self.assertTrue(Lamps(found.lamps, found.clears, backwards).shows(house, prices))
        for left in found.doubts:
            fewer = {some: found.doubts[some] for some in found.doubts if some != left}
            self.assertFalse(Lamps(found.lamps, found.clears, fewer).shows(house, prices))
        # This one costs as much as the choice.
        more = found.doubts | {(0,): clearing(house, (0,))}
        self.assertTrue(more[(0,)].shows(house, (0,)))
        self.assertFalse(Lamps(found.lamps, found.clears, more).shows(house, prices))
        swapped = {(): found.doubts[()], (1,): found.doubts[(1,)], (0,): more[(0,)]}
        self.assertFalse(Lamps(found.lamps, found.clears, swapped).shows(house, prices))

    def test_each_doubt_is_one_of_its_own_choice(self):
        house, prices = House(*TWO_NEEDED), (3, 1, 2)
        found = light(house, prices)
        for some in found.doubts:
            for doubt in [Clouds([], [], None), Clouds([(0, 0, 0)], [(0, 0, 0)], None), found.doubts[()]]:
                changed = found.doubts | {some: doubt}
                with self.subTest(some=some, doubt=vars(doubt)):
                    self.assertIs(Lamps(found.lamps, found.clears, changed).shows(house, prices),
                                  doubt.shows(house, some))

    def test_the_clears_is_one_of_the_choice(self):
        house, prices = House(((1,), (1, 2)), 2), (1, 1)
        found = light(house, prices)
        self.assertEqual(found.lamps, (0,))
        self.assertFalse(Lamps((0,), clearing(house, (1,)), found.doubts).shows(house, prices))
        self.assertFalse(Lamps((1,), found.clears, found.doubts).shows(house, prices))
        self.assertTrue(Lamps((1,), clearing(house, (1,)), found.doubts).shows(house, prices))
        self.assertFalse(Lamps((0,), Clears(1, {}, [], []), found.doubts).shows(house, prices))

    def test_what_is_neither_clears_nor_clouds_nor_a_choice(self):
        house, prices = House(*ALIKE), (3, 1)
        found = light(house, prices)
        clouds = found.doubts[()]
        self.assertFalse(Lamps((), clouds, {}).shows(house, prices))
        self.assertFalse(Lamps((1,), None, found.doubts).shows(house, prices))
        self.assertFalse(Lamps((1,), found.clears, {(): found.clears}).shows(house, prices))
        # No Clears is a doubt, although it shows something of the choice that costs less.
        once = House(*AT_ONCE)
        self.assertTrue(clearing(once, ()).shows(once, ()))
        self.assertFalse(Lamps((0,), clearing(once, (0,)), {(): clearing(once, ())}).shows(once, (7,)))
        for lamps in [(True,), (2,), (1, 0), None]:
            with self.subTest(lamps=lamps):
                self.assertFalse(Lamps(lamps, found.clears, found.doubts).shows(house, prices))
        for key in [(True,), (2,), None, (0, 0)]:
            with self.subTest(key=key):
                self.assertFalse(Lamps((1,), found.clears, {key: clouds}).shows(house, prices))

    def test_the_current_attributes_count(self):
        house, prices = House(*ALIKE), (3, 1)
        found = Lamps((), Clears(0, {}, [], []), {})
        self.assertIs(found.shows(house, prices), False)
        found.lamps = (1,)
        self.assertIs(found.shows(house, prices), False)
        found.doubts[()] = Clouds([(0, 0), (0, 1)], [(0, 0), (1, 0)], None)
        self.assertIs(found.shows(house, prices), True)
        found.clears.ticks = 1
        self.assertIs(found.shows(house, prices), False)
        found.clears.ticks = 0
        found.doubts[()].back = 0
        self.assertIs(found.shows(house, prices), False)

    def test_lamps_of_another_house(self):
        found = light(House(*THREE), (2, 1, 2))
        self.assertEqual(found.lamps, (1,))
        self.assertFalse(found.shows(House(*ALIKE), (2, 1)))
        self.assertFalse(found.shows(House(*AT_ONCE), (2,)))


if __name__ == "__main__":
    unittest.main()
