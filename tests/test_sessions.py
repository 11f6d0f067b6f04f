"""Watching: points 1 and 9."""

import unittest

from byhand import HOUSES, NO_HOUSES, NO_LAMPS, Lit, all_lamps, refused
from whatruns.errors import BadHouse, BadLamps, BadSeen, NothingDone
from whatruns.houses import House
from whatruns.sessions import Watch

MIXED = (((2, 1), (1, 2)), 2)
ALIKE = (((2,), (2,)), 2)


class Stop(Exception):
    """What leaves a trial in these tests."""


def told(watch):
    """All that a watch tells."""
    return [list(watch), watch.journal, len(watch), watch.sure(), watch.most_running()]


def undone(watch):
    """What all undoing takes back, of a branch, so that the watch stays."""
    branch, found = watch.branch(), []
    while len(branch):
        found.append((branch.undo(), list(branch)))
    return found


class ByHand:
    """What is possible, worked out from all tracks at once."""

    def __init__(self, table, idle):
        self.table = table
        self.possible = [table.idle] if idle else list(table.states)

    def views(self):
        """What can be seen at the next tick."""
        return sorted({self.table.seen[later] for state in self.possible for later in self.table.after[state]})

    def see(self, view):
        self.possible = [later for later in self.table.states if self.table.seen[later] == view
                         and any(later in self.table.after[state] for state in self.possible)]

    def told(self):
        sure = []
        for device in range(len(self.table.profiles)):
            kinds = {state[device] > 0 for state in self.possible}
            sure.append(kinds.pop() if len(kinds) == 1 else None)
        return [self.possible, tuple(sure), max(sum(tick > 0 for tick in state) for state in self.possible)]


class TestWatch(unittest.TestCase):

    def test_the_example(self):
        house = House(((2, 1), (1, 2)), 2)
        watch, dark = Watch(house, ()), Watch(house, (), idle=False)
        found = [watch.see((3, ())), watch.sure(), list(watch), watch.tried([(3, ()), (0, ())]), watch.undo(),
                 len(watch), len(list(dark)), dark.see((2, ())), list(dark)]
        self.assertEqual(found, [1, (True, True), [(1, 1)], [1, 1], (3, ()), 0, 9, 3, [(0, 2), (1, 0), (2, 1)]])

    def test_at_first(self):
        for profiles, most in HOUSES:
            for lamps in all_lamps(profiles):
                with self.subTest(profiles=profiles, most=most, lamps=lamps):
                    house, table = House(profiles, most), Lit(profiles, most, lamps)
                    for watch in (Watch(house, lamps), Watch(house, lamps, idle=True)):
                        self.assertEqual(told(watch), [[table.idle], [], 0, (False,) * len(profiles), 0])
                    dark = Watch(house, lamps, idle=False)
                    self.assertEqual(told(dark), [table.states, [], 0, (None,) * len(profiles),
                                                  min(most, len(profiles))])

    def test_all_that_can_be_seen_for_three_ticks(self):
        for profiles, most in HOUSES[:14]:
            for lamps in all_lamps(profiles)[::2]:
                for idle in (True, False):
                    watch = Watch(House(profiles, most), lamps, idle=idle)
                    self.follow(watch, ByHand(Lit(profiles, most, lamps), idle), 3)

    def follow(self, watch, by_hand, ticks):
        self.assertEqual([list(watch), watch.sure(), watch.most_running()], by_hand.told())
        before, possible = told(watch), by_hand.possible
        for view in by_hand.views() if ticks else []:
            by_hand.see(view)
            self.assertEqual(watch.see(view), len(by_hand.possible))
            self.assertEqual((watch.journal, len(watch)), (before[1] + [view], before[2] + 1))
            self.follow(watch, by_hand, ticks - 1)
            by_hand.possible = possible
            self.assertEqual(watch.undo(), view)
            self.assertEqual(told(watch), before)

    def test_views_that_cannot_be_seen_then(self):
        for profiles, most in HOUSES[:12]:
            for lamps in all_lamps(profiles):
                table = Lit(profiles, most, lamps)
                for idle in (True, False):
                    watch, by_hand = Watch(House(profiles, most), lamps, idle=idle), ByHand(table, idle)
                    before = told(watch)
                    views = set(table.seen.values()) | {(28, (True,) * len(lamps)), (-1, (False,) * len(lamps))}
                    for view in views - set(by_hand.views()):
                        with self.subTest(profiles=profiles, most=most, lamps=lamps, idle=idle, view=view):
                            self.assertIsNone(refused(BadSeen, watch.see, view).index)
                            self.assertEqual(told(watch), before)

    def test_what_is_no_view(self):
        watch = Watch(House(((1,), (1,)), 2), (1,), idle=False)
        before = told(watch)
        for view in [None, 0, True, "1", b"1", (), [], {}, set(), object(), watch, (1,), (1, (True,), 0), [1, (True,)],
                     (1, [True]), (1, True), (1, None), (1, ()), (1, (True, True)), (1, (1,)), (0, (0,)), (0, (None,)),
                     (1, ("True",)), (True, (True,)), (False, (False,)), (True, (False,)), (None, (True,)),
                     ("1", (True,)), ((1,), (True,)), ([], (True,)), (1, ([],)), (10 ** 30, (True,)),
                     (1, {True: True}), (1, {True})]:
            with self.subTest(view=view):
                self.assertIsNone(refused(BadSeen, watch.see, view).index)
                self.assertEqual(refused(BadSeen, watch.tried, [(1, (True,)), view]).index, 1)
                self.assertEqual(told(watch), before)
        self.assertEqual([watch.see((1, (True,))), watch.see((1, (False,)))], [1, 1])

    def test_lamps_that_tell_more(self):
        for lamps, view, count in [((), (2, ()), 2), ((0,), (2, (True,)), 1), ((0, 1), (2, (False, True)), 1)]:
            with self.subTest(lamps=lamps):
                self.assertEqual(Watch(House(*ALIKE), lamps).see(view), count)
        watch = Watch(House(*ALIKE), ())
        watch.see((2, ()))
        self.assertEqual([list(watch), watch.sure(), watch.most_running()], [[(0, 1), (1, 0)], (None, None), 1])

    def test_a_watch_is_iterated_over_each_time_anew(self):
        watch = Watch(House(*ALIKE), (), idle=False)
        states = [(0, 0), (0, 1), (1, 0), (1, 1)]
        self.assertEqual([(one, other) for one in watch for other in watch],
                         [(one, other) for one in states for other in states])
        self.assertEqual(list(watch), states)

    def test_returned_lists_are_new(self):
        watch = Watch(House(*ALIKE), ())
        watch.see((2, ()))
        watch.journal.clear()
        watch.journal.append((0, ()))
        self.assertEqual(watch.journal, [(2, ())])
        self.assertIsNot(watch.journal, watch.journal)
        journal = watch.journal
        watch.see((0, ()))
        self.assertEqual(journal, [(2, ())])
        counts = watch.tried([(2, ())])
        counts.clear()
        self.assertEqual(watch.tried([(2, ())]), [2])

    def test_a_long_watch(self):
        watch = Watch(House(*ALIKE), ())
        views = [(2, ())] * 1000
        self.assertEqual([watch.see(view) for view in views], [2] * 1000)
        self.assertEqual((len(watch), watch.journal), (1000, views))
        self.assertEqual([watch.undo() for _ in views], views)
        self.assertEqual(list(watch), [(0, 0)])

    def test_which_error_comes_first(self):
        for house in NO_HOUSES:
            for lamps in [(), (9,), None]:
                for idle in (True, False):
                    with self.subTest(house=house, lamps=lamps, idle=idle):
                        with self.assertRaises(BadHouse) as caught:
                            Watch(house, lamps, idle=idle)
                        self.assertIsNone(caught.exception.part)
        for lamps in NO_LAMPS:
            with self.subTest(lamps=lamps):
                refused(BadLamps, Watch, House(*ALIKE), lamps)

    def test_idle_is_given_by_keyword_only(self):
        with self.assertRaises(TypeError):
            Watch(House(*ALIKE), (), False)

    def test_two_watches_of_one_house(self):
        house = House(*ALIKE)
        one, other = Watch(house, ()), Watch(house, ())
        one.see((4, ()))
        self.assertEqual((len(one), len(other), list(other)), (1, 0, [(0, 0)]))
        self.assertFalse(one == house)
        self.assertTrue(one != house)


class TestUndo(unittest.TestCase):

    def test_nothing_is_done_at_first(self):
        for idle in (True, False):
            watch = Watch(House(*ALIKE), (), idle=idle)
            before = told(watch)
            refused(NothingDone, watch.undo)
            self.assertEqual(told(watch), before)

    def test_back_to_the_beginning(self):
        for idle in (True, False):
            watch = Watch(House(*MIXED), (), idle=idle)
            steps, views = [told(watch)], [(2, ()), (2, ()), (2, ()), (0, ())]
            for view in views:
                watch.see(view)
                steps.append(told(watch))
            for view in reversed(views):
                self.assertEqual(told(watch), steps.pop())
                self.assertEqual(watch.undo(), view)
            self.assertEqual(told(watch), steps.pop())
            refused(NothingDone, watch.undo)

    def test_what_was_undone_can_be_seen_otherwise(self):
        watch, straight = Watch(House(*MIXED), ()), Watch(House(*MIXED), ())
        watch.see((3, ()))
        watch.undo()
        watch.see((1, ()))
        straight.see((1, ()))
        self.assertEqual(told(watch), told(straight))
        self.assertEqual(watch.see((2, ())), straight.see((2, ())))

    def test_what_was_refused_is_not_undone(self):
        watch = Watch(House(*MIXED), ())
        watch.see((3, ()))
        refused(BadSeen, watch.see, (1, ()))
        self.assertEqual(watch.undo(), (3, ()))
        refused(NothingDone, watch.undo)


class TestBranch(unittest.TestCase):

    def test_it_is_the_same_and_independent(self):
        for idle in (True, False):
            watch = Watch(House(*MIXED), (1,), idle=idle)
            watch.see((2, (False,)))
            branch = watch.branch()
            self.assertIs(type(branch), Watch)
            self.assertIsNot(branch, watch)
            before = told(watch)
            self.assertEqual(told(branch), before)
            branch.see((1, (False,)))
            self.assertEqual(told(watch), before)
            self.assertEqual([branch.undo(), branch.undo()], [(1, (False,)), (2, (False,))])
            self.assertEqual(told(watch), before)
            self.assertEqual(told(branch), told(Watch(House(*MIXED), (1,), idle=idle)))
            branch.see((3, (True,)))
            after = told(branch)
            self.assertEqual(watch.undo(), (2, (False,)))
            self.assertEqual(told(branch), after)

    def test_a_branch_in_a_trial(self):
        watch = Watch(House(*MIXED), ())
        watch.see((2, ()))
        with watch.trial():
            watch.see((1, ()))
            with watch.trial():
                branch = watch.branch()
                inside = told(watch)
                refused(NothingDone, watch.undo)
                self.assertEqual([branch.undo(), branch.undo()], [(1, ()), (2, ())])
                refused(NothingDone, branch.undo)
                self.assertEqual(told(watch), inside)
                kept = watch.branch()
        self.assertEqual(told(kept), inside)
        self.assertEqual((len(watch), len(branch)), (1, 0))
        self.assertEqual([kept.undo(), kept.undo()], [(1, ()), (2, ())])
        self.assertEqual(told(kept), told(Watch(House(*MIXED), ())))

    def test_a_trial_of_a_branch(self):
        watch = Watch(House(*MIXED), ())
        watch.see((2, ()))
        branch = watch.branch()
        with branch.trial() as inner:
            self.assertIs(inner, branch)
            refused(NothingDone, branch.undo)
            branch.see((1, ()))
            self.assertEqual((len(watch), len(branch)), (1, 2))
            self.assertEqual(watch.undo(), (2, ()))
        self.assertEqual((len(watch), len(branch)), (0, 1))
        self.assertEqual(branch.undo(), (2, ()))


class TestTrial(unittest.TestCase):

    def setUp(self):
        self.watch = Watch(House(*MIXED), ())
        self.watch.see((2, ()))
        self.before = told(self.watch)
        self.past = undone(self.watch)

    def check_as_before(self):
        self.assertEqual(told(self.watch), self.before)
        self.assertEqual(undone(self.watch), self.past)

    def test_it_gives_the_watch_and_ends_as_it_began(self):
        with self.watch.trial() as inner:
            self.assertIs(inner, self.watch)
            self.assertEqual(told(inner), self.before)
            self.assertEqual(inner.see((1, ())), 1)
            self.assertEqual(self.watch.journal, [(2, ()), (1, ())])
        self.check_as_before()
        self.assertEqual(self.watch.undo(), (2, ()))

    def test_a_trial_without_ticks(self):
        with self.watch.trial():
            pass
        self.check_as_before()

    def test_only_its_own_ticks_can_be_undone(self):
        with self.watch.trial():
            refused(NothingDone, self.watch.undo)
            self.check_as_before()
            self.watch.see((1, ()))
            self.watch.see((1, ()))
            self.assertEqual([self.watch.undo(), self.watch.undo()], [(1, ()), (1, ())])
            refused(NothingDone, self.watch.undo)
            self.check_as_before()
            self.watch.see((1, ()))
        self.check_as_before()
        self.assertEqual(self.watch.undo(), (2, ()))
        refused(NothingDone, self.watch.undo)

    def test_trials_within_one_another(self):
        with self.watch.trial():
            self.watch.see((1, ()))
            outer, outer_past = told(self.watch), undone(self.watch)
            for _ in range(2):
                with self.watch.trial():
                    refused(NothingDone, self.watch.undo)
                    self.watch.see((1, ()))
                    with self.watch.trial() as inner:
                        refused(NothingDone, inner.undo)
                        inner.see((2, ()))
                    self.assertEqual(self.watch.undo(), (1, ()))
                    refused(NothingDone, self.watch.undo)
                    self.watch.see((0, ()))
                self.assertEqual((told(self.watch), undone(self.watch)), (outer, outer_past))
            self.assertEqual(self.watch.undo(), (1, ()))
            refused(NothingDone, self.watch.undo)
        self.check_as_before()
        self.assertEqual(self.watch.undo(), (2, ()))

    def test_an_error_that_leaves_it_is_passed_on(self):
        for error in (Stop, KeyboardInterrupt, GeneratorExit):
            wrong = error("left")
            with self.assertRaises(error) as caught:
                with self.watch.trial():
                    self.watch.see((1, ()))
                    raise wrong
            self.assertIs(caught.exception, wrong)
            self.check_as_before()

    def test_an_error_that_leaves_several(self):
        with self.assertRaises(Stop):
            with self.watch.trial():
                self.watch.see((1, ()))
                with self.watch.trial():
                    self.watch.see((1, ()))
                    raise Stop
        self.check_as_before()
        self.assertEqual(self.watch.undo(), (2, ()))

    def test_an_error_that_leaves_only_the_inner_one(self):
        with self.watch.trial():
            self.watch.see((1, ()))
            inside = told(self.watch)
            with self.assertRaises(BadSeen):
                with self.watch.trial():
                    self.watch.see((1, ()))
                    self.watch.see((9, ()))
            self.assertEqual(told(self.watch), inside)
            self.assertEqual(self.watch.undo(), (1, ()))
        self.check_as_before()

    def leave(self, how):
        for _ in range(2):
            with self.watch.trial():
                self.watch.see((1, ()))
                if how == "return":
                    return
                if how == "break":
                    break
                if how == "continue":
                    continue

    def test_it_can_be_left_in_any_way(self):
        for how in ("return", "break", "continue", "end"):
            with self.subTest(how=how):
                self.leave(how)
                self.check_as_before()

    def test_it_begins_with_its_block(self):
        trial = self.watch.trial()
        self.watch.see((1, ()))
        between = told(self.watch)
        for _ in range(2):
            with trial:
                self.watch.see((1, ()))
            self.assertEqual(told(self.watch), between)
        self.assertEqual([self.watch.undo(), self.watch.undo()], [(1, ()), (2, ())])

    def test_a_journal_that_was_taken_before(self):
        journal = self.watch.journal
        with self.watch.trial():
            self.watch.see((1, ()))
            inside = self.watch.journal
        self.assertEqual((journal, inside, self.watch.journal), ([(2, ())], [(2, ()), (1, ())], [(2, ())]))

    def test_trials_of_two_watches(self):
        other = Watch(House(*ALIKE), ())
        other.see((4, ()))
        with self.watch.trial():
            with other.trial():
                self.watch.see((1, ()))
                other.see((0, ()))
            self.assertEqual((len(self.watch), len(other)), (2, 1))
            self.assertEqual(other.undo(), (4, ()))
        self.assertEqual(len(other), 0)
        self.check_as_before()


class TestTried(unittest.TestCase):

    def test_the_counts_and_nothing_else(self):
        watch = Watch(House(*MIXED), (), idle=False)
        watch.see((2, ()))
        before, past = told(watch), undone(watch)
        for views in [[], [(2, ())], [(2, ()), (1, ())], [(0, ()), (3, ()), (3, ()), (0, ())], [(2, ())] * 20]:
            with self.subTest(views=views):
                branch, counts = watch.branch(), []
                for view in views:
                    counts.append(branch.see(view))
                self.assertEqual(watch.tried(views), counts)
                self.assertEqual(watch.tried(tuple(views)), counts)
                self.assertEqual((told(watch), undone(watch)), (before, past))

    def test_arguments_stay(self):
        views = [(2, ()), (1, ())]
        Watch(House(*MIXED), ()).tried(views)
        self.assertEqual(views, [(2, ()), (1, ())])

    def test_in_a_trial(self):
        watch = Watch(House(*MIXED), ())
        with watch.trial():
            watch.see((2, ()))
            self.assertEqual(watch.tried([(1, ())]), [1])
            self.assertEqual(watch.undo(), (2, ()))
            refused(NothingDone, watch.undo)

    def test_what_is_no_list_of_at_most_20_items(self):
        watch = Watch(House(*ALIKE), ())
        before = told(watch)
        for views in [None, 0, True, "", "ab", b"", {}, {(0, ()): 1}, set(), range(0), iter([]), object(), watch,
                      [(0, ())] * 21, ((0, ()),) * 21, [None] * 21]:
            with self.subTest(views=views):
                self.assertIsNone(refused(BadSeen, watch.tried, views).index)
                self.assertEqual(told(watch), before)
        self.assertEqual(watch.tried([(0, ())] * 20), [1] * 20)
        self.assertEqual(watch.tried([]), [])

    def test_the_first_one_that_cannot_be_seen_then(self):
        watch = Watch(House(*MIXED), ())
        watch.see((2, ()))
        before = told(watch)
        for wrong in [(0, ()), (3, ()), (9, ()), (True, ()), (1, (True,)), None, [1, ()], 1]:
            for views, index in [([wrong], 0), ([wrong, None], 0), ([(1, ()), (1, ()), wrong, None], 2)]:
                with self.subTest(views=views):
                    found = refused(BadSeen, watch.tried, views).index
                    self.assertEqual((type(found), found), (int, index))
                    self.assertEqual(refused(BadSeen, watch.tried, tuple(views)).index, index)
                    self.assertEqual(told(watch), before)
        self.assertEqual(refused(BadSeen, watch.tried, [(1, ())] + [(0, ())] * 18 + [(5, ())]).index, 19)


if __name__ == "__main__":
    unittest.main()
