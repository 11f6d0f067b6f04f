"""Texts: points 1 and 10."""

import unittest
from itertools import product

from byhand import HOUSES, NO_HOUSES, Table, refused
from whatruns.errors import BadHouse, BadRun, BadText
from whatruns.houses import House
from whatruns.sessions import Watch
from whatruns.texts import house_text, read_house, read_run, run_text

MIXED = (((2, 1), (1, 2)), 2)
NO_TEXTS = [None, 0, True, b"", b"most 1\ndraws 1\n", [], ["most 1", "draws 1"], (), {}, object(), House(*MIXED)]


class TestWriting(unittest.TestCase):

    def test_the_example(self):
        house = House(((2, 1), (1, 2)), 2)
        watch, dark = Watch(house, ()), Watch(house, (), idle=False)
        found = [watch.see((3, ())), watch.sure(), list(watch), watch.tried([(3, ()), (0, ())]), watch.undo(),
                 len(watch), len(list(dark)), dark.see((2, ())), list(dark)]
        texts = [house_text(house), run_text(house, [(1, 0), (2, 1)]), read_run(house, '2: 1 0\n2: 2 1\n')]
        self.assertEqual([found, texts, read_house(house_text(house)) == house],
                         [[1, (True, True), [(1, 1)], [1, 1], (3, ()), 0, 9, 3, [(0, 2), (1, 0), (2, 1)]],
                          ['most 2\ndraws 2 1\ndraws 1 2\n', '2: 1 0\n2: 2 1\n', [(1, 0), (2, 1)]], True])

    def test_houses(self):
        for profiles, most, text in [(((1,),), 1, "most 1\ndraws 1\n"),
                                     (((9, 8, 7, 6),), 3, "most 3\ndraws 9 8 7 6\n"),
                                     (((1,), (2, 3), (4, 5, 6)), 2, "most 2\ndraws 1\ndraws 2 3\ndraws 4 5 6\n")]:
            with self.subTest(text=text):
                self.assertEqual(house_text(House(profiles, most)), text)
                self.assertEqual(read_house(text), House(profiles, most))

    def test_runs(self):
        three = House(((9, 1), (9,), (9, 9, 9, 9)), 3)
        for house, states, text in [(House(*MIXED), [], ""),
                                    (House(*MIXED), [(0, 0)], "0: 0 0\n"),
                                    (House(*MIXED), [(1, 1), (2, 2), (0, 0)], "3: 1 1\n3: 2 2\n0: 0 0\n"),
                                    (three, [(1, 1, 1), (2, 0, 2)], "27: 1 1 1\n10: 2 0 2\n"),
                                    (House(((5,),), 1), [(1,), (0,)], "5: 1\n0: 0\n")]:
            with self.subTest(text=text):
                self.assertEqual(run_text(house, states), text)
                self.assertEqual(run_text(house, tuple(states)), text)
                self.assertEqual(read_run(house, text), states)

    def test_what_is_written_can_be_read(self):
        for profiles, most in HOUSES:
            house, table = House(profiles, most), Table(profiles, most)
            found = read_house(house_text(house))
            self.assertEqual((list(found), found.most), (list(profiles), most))
            runs = [[]]
            for _ in range(2):
                runs += [run + [later] for run in runs for later in table.after[run[-1] if run else table.idle]]
            for run in runs:
                with self.subTest(profiles=profiles, most=most, run=run):
                    self.assertEqual(read_run(house, run_text(house, run)), run)

    def test_what_is_no_house(self):
        for house in NO_HOUSES:
            with self.subTest(house=house):
                self.assertIsNone(refused(BadHouse, house_text, house).part)
                for rest in ([], None, [(5,)]):
                    self.assertIsNone(refused(BadHouse, run_text, house, rest).part)
                for text in ("", None, "0: 0"):
                    self.assertIsNone(refused(BadHouse, read_run, house, text).part)

    def test_what_is_no_run(self):
        house = House(*MIXED)
        for states in [None, 0, True, "", "ab", b"", {}, set(), range(0), iter([]), house]:
            with self.subTest(states=states):
                self.assertIsNone(refused(BadRun, run_text, house, states).index)
        for states, index in [([(2, 0)], 0), ([None], 0), ([(True, 0)], 0), ([(1, 0), (1, 0), None], 1),
                              ([(1, 0), (2, 0), [0, 0]], 2), (((1, 0), (0, 0)), 1)]:
            with self.subTest(states=states):
                self.assertEqual(refused(BadRun, run_text, house, states).index, index)


class TestReadHouse(unittest.TestCase):

    def check(self, text, row):
        with self.subTest(text=text):
            found = refused(BadText, read_house, text).row
            self.assertEqual((type(found), found), (int, row))

    def test_what_is_no_text(self):
        for text in NO_TEXTS:
            self.check(text, 0)

    def test_missing_lines_and_line_feeds(self):
        for text, row in [("", 0), ("most 1", 0), ("most 1\n", 1), ("most 1\ndraws 1", 1), ("most 1\ndraws", 1),
                          ("most 1\ndraws 1\ndraws 1", 2), ("most 1\ndraws 1\n ", 2), ("most 1\ndraws 1\nx", 2),
                          ("x", 0), (" ", 0), ("draws 1", 0), ("most 1\nx", 1),
                          ("most 1\ndraws 1\ndraws 1\ndraws 1\ndraws 1", 4),
                          ("most 1\ndraws 1\ndraws 1\ndraws 1\n\r", 4)]:
            self.check(text, row)

    def test_a_fourth_device(self):
        three = "most 1\ndraws 1\ndraws 2 2\ndraws 3\n"
        self.assertEqual(len(read_house(three)), 3)
        for more in ("draws 1\n", "\n", "x\n", "draws 1\ndraws 1\n", "\n\n", "draws 0\n"):
            self.check(three + more, 4)

    def test_the_first_line(self):
        for line in ["most 0", "most 4", "most 10", "most 01", "most +1", "most -1", "most 1 ", " most 1", "most  1",
                     "most 1 1", "most", "most ", "most1", "Most 1", "MOST 1", "most: 1", "most x", "most 1.0", "1", "",
                     " ", "draws 1", "most\t1", "most 1\r", "\rmost 1", "most \u0661", "most \u00b2", "most \uff11",
                     "most\u00a01", "most True", "most 1\x00", "most 1\x0b", "most 1\u2028", "most None"]:
            for rest in ("\n", "\ndraws 1\n", "\ndraws 0\nx", "\n\n\n"):
                self.check(line + rest, 0)

    def test_lines_of_devices(self):
        for line in ["draws", "draws ", "draws 0", "draws 10", "draws 1 0", "draws 1 10", "draws 1 1 1 1 1", "draws 01",
                     "draws 1 01", "draws 1 ", "draws  1", " draws 1", "draws 1  2", "draws 1\t2", "draws1", "draw 1",
                     "draws 1,2", "draws: 1", "Draws 1", "most 1", "", " ", "1", "draws x", "draws +1", "draws -1",
                     "draws 1.0", "draws 1\r", "draws \u0661", "draws \u00b2", "draws \uff11", "draws\u00a01",
                     "draws 1 2\x0c", "draws 1\u20282", "draws 1\x0bdraws 2", "draws 1\x85", "draws None"]:
            for before in (["most 1"], ["most 3", "draws 1 2 3 4"], ["most 2", "draws 9", "draws 8"]):
                for rest in ("", "draws 1\n", "x", "\n"):
                    self.check("\n".join(before + [line]) + "\n" + rest, len(before))

    def test_the_first_wrong_line_comes_before_what_follows_the_last_line_feed(self):
        self.check("most 1\ndraws 0\ndraws 1", 1)
        self.check("most 0\ndraws 0\ndraws 1", 0)
        self.check("most 0\n", 0)
        self.check("\n", 0)
        self.check("\n\n", 0)
        self.check("most 1\n\n", 1)

    def test_all_numbers_from_0_to_12(self):
        for first, second in product(range(13), repeat=2):
            text = f"most {first}\ndraws {second}\n"
            if first not in (1, 2, 3):
                self.check(text, 0)
            elif not 1 <= second <= 9:
                self.check(text, 1)
            else:
                self.assertEqual(read_house(text), House(((second,),), first))


class TestReadRun(unittest.TestCase):

    def check(self, house, text, row):
        with self.subTest(text=text):
            found = refused(BadText, read_run, house, text).row
            self.assertEqual((type(found), found), (int, row))

    def test_the_empty_run(self):
        for profiles, most in HOUSES:
            self.assertEqual(read_run(House(profiles, most), ""), [])
            self.check(House(profiles, most), "\n", 0)

    def test_what_is_no_text(self):
        for text in NO_TEXTS:
            self.check(House(*MIXED), text, 0)

    def test_what_follows_the_last_line_feed(self):
        for text, row in [("2: 1 0", 0), ("x", 0), (" ", 0), ("2: 1 0\n1: 2 0", 1), ("2: 1 0\n1: 2 0\n ", 2),
                          ("2: 1 0\n1: 2 0\n1: 0 1\n2: 0 2\n0", 4)]:
            self.check(House(*MIXED), text, row)

    def test_lines_of_another_form(self):
        house = House(*MIXED)
        for line in ["", " ", "2", "2:", "2: ", "2: 1", "2:1 0", "2 : 1 0", "2:  1 0", "2: 1  0", "2: 1 0 ", " 2: 1 0",
                     "2: 1 0 0", "02: 1 0", "2: 01 0", "2: 1 00", "+2: 1 0", "2: +1 0", "2: 1 -0", "2; 1 0", "2 1 0",
                     "2: 1,0", "2: (1, 0)", "2: 1\t0", "2: 1 0\r", "\u0662: 1 0", "2: \u0661 0", "2: 1 \uff10",
                     "2:\u00a01 0", "2: 1 x", "x: 1 0", "2.0: 1 0", "2: True False", "2: 1 0\x0b", "2: 1 0\u2028",
                     "2: 1 0: ", "draws 1"]:
            for before in ([], ["0: 0 0"], ["0: 0 0", "0: 0 0"]):
                for rest in ("", "x", "1: 2 0\n", "\n"):
                    self.check(house, "\n".join(before + [line]) + "\n" + rest, len(before))

    def test_lines_of_states_that_cannot_come_then(self):
        house = House(((2, 1), (1,)), 1)
        for text, row in [("1: 2 0\n", 0), ("3: 1 1\n", 0), ("2: 1 0\n2: 1 0\n", 1), ("2: 1 0\n0: 0 0\n", 1),
                          ("2: 1 0\n1: 2 0\n2: 1 0\n", 2), ("1: 0 1\n1: 0 1\n", 1), ("1: 0 1\n0: 0 0\n0: 3 0\nx", 2),
                          ("0: 0 5\n", 0), ("0: 0 0\n0: 0 0\n0: 0 2\n", 2)]:
            self.check(house, text, row)

    def test_lines_with_another_total(self):
        for total in range(30):
            text = f"{total}: 1 1\n"
            if total == 3:
                self.assertEqual(read_run(House(*MIXED), text), [(1, 1)])
            else:
                self.check(House(*MIXED), text, 0)

    def test_the_first_wrong_line(self):
        self.check(House(*MIXED), "2: 1 0\n9: 9 9\nx\n2", 1)
        self.check(House(*MIXED), "x\n2: 1 0", 0)

    def test_all_lines_against_what_can_come(self):
        for profiles, most in HOUSES[:12]:
            house, table = House(profiles, most), Table(profiles, most)
            for first in table.after[table.idle]:
                for state in product(range(6), repeat=len(profiles)):
                    watts = table.total.get(state, 0)
                    text = run_text(house, [first]) + f"{watts}: {' '.join(str(tick) for tick in state)}\n"
                    if state in table.after[first]:
                        self.assertEqual(read_run(house, text), [first, state])
                    else:
                        self.check(house, text, 1)

    def test_lists_are_new(self):
        house = House(*MIXED)
        read_run(house, "2: 1 0\n").clear()
        self.assertEqual(read_run(house, "2: 1 0\n"), [(1, 0)])


if __name__ == "__main__":
    unittest.main()
