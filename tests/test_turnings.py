"""Promises 2 and 9 to 11: quiltlaw.turnings."""

import copy
import inspect
import itertools
import unittest

from slow import turned_by_cells

from quiltlaw import turnings
from quiltlaw.pictures import cut_out, parted, size_of, windows_of
from quiltlaw.turnings import after, back, seen_in, turned

# No two turnings turn this one alike, and rows and columns are not as many.
UNLIKE = ["abc", "def"]
BY_HAND = [
    ["abc", "def"], ["da", "eb", "fc"], ["fed", "cba"], ["cf", "be", "ad"],
    ["cba", "fed"], ["fc", "eb", "da"], ["def", "abc"], ["ad", "be", "cf"],
]
SAMPLES = [
    ["a"], ["ab"], ["a", "b"], ["ab", "cd"], UNLIKE, ["abcdef"], ["a", "b", "c", "d", "e", "f"],
    ["aab", "bab", "abc", "cca"],
    ["abcdef", "ghijkl", "mnopqr", "stuvwx", "yzabcd", "efghij"],
]


def seen_by_cells(picture):
    """What promise 11 tells, from windows and cells alone."""
    found = []
    for window in windows_of(*size_of(picture)):
        for t in range(8):
            seen = turned_by_cells(cut_out(picture, window), t)
            if seen not in found:
                found.append(seen)
    return sorted(sorted(found), key=lambda seen: len("".join(seen)))


class InterfaceTest(unittest.TestCase):
    def test_names_and_arguments(self):
        asked = {"turned": ["picture", "t"], "after": ["t", "u"], "back": ["t"],
                 "seen_in": ["picture"]}
        for name, arguments in asked.items():
            with self.subTest(name):
                told = inspect.signature(getattr(turnings, name)).parameters
                self.assertEqual(list(told), arguments)


class TurnedTest(unittest.TestCase):
    def test_each_turning_by_hand(self):
        for t in range(8):
            with self.subTest(t):
                self.assertEqual(turned(UNLIKE, t), BY_HAND[t])

    def test_left_column_from_below_becomes_upper_row(self):
        self.assertEqual(turned(["ax", "bx", "cx"], 1)[0], "cba")

    def test_each_turning_cell_by_cell(self):
        for picture, t in itertools.product(SAMPLES, range(8)):
            self.assertEqual(turned(picture, t), turned_by_cells(picture, t))

    def test_one_cell_stays(self):
        for t in range(8):
            self.assertEqual(turned(["q"], t), ["q"])

    def test_size(self):
        for t in range(8):
            asked = (2, 3) if t % 2 == 0 else (3, 2)
            self.assertEqual(size_of(turned(UNLIKE, t)), asked)


class AfterTest(unittest.TestCase):
    def test_all_pairs(self):
        for t, u in itertools.product(range(8), repeat=2):
            with self.subTest(t=t, u=u):
                told = after(t, u)
                self.assertIs(type(told), int)
                self.assertEqual(BY_HAND[told], turned_by_cells(BY_HAND[t], u))

    def test_with_each_picture(self):
        for picture, t, u in itertools.product(SAMPLES, range(8), range(8)):
            self.assertEqual(turned(picture, after(t, u)), turned(turned(picture, t), u))

    def test_order_matters(self):
        self.assertEqual((after(4, 1), after(1, 4)), (5, 7))

    def test_back(self):
        self.assertEqual([back(t) for t in range(8)], [0, 3, 2, 1, 4, 5, 6, 7])
        for t in range(8):
            self.assertIs(type(back(t)), int)
            self.assertEqual((after(t, back(t)), after(back(t), t)), (0, 0))
            for picture in SAMPLES:
                self.assertEqual(turned(turned(picture, t), back(t)), picture)


class SeenTest(unittest.TestCase):
    def test_one_cell(self):
        self.assertEqual(seen_in(["a"]), [["a"]])

    def test_two_cells(self):
        for picture in (["ab"], ["ba"], ["a", "b"], ["b", "a"]):
            self.assertEqual(seen_in(picture), [["a"], ["b"], ["a", "b"], ["ab"], ["b", "a"], ["ba"]])

    def test_windows_that_look_alike(self):
        self.assertEqual(seen_in(["aa", "aa"]), [["a"], ["a", "a"], ["aa"], ["aa", "aa"]])
        self.assertEqual(seen_in(["aaa"]), [["a"], ["a", "a"], ["aa"], ["a", "a", "a"], ["aaa"]])
        self.assertEqual(
            seen_in(["ab", "ba"]),
            [["a"], ["b"], ["a", "b"], ["ab"], ["b", "a"], ["ba"], ["ab", "ba"], ["ba", "ab"]])

    def test_fewer_cells_ahead_of_rising(self):
        told = seen_in(["ba", "aa"])
        self.assertLess(told.index(["b"]), told.index(["a", "a"]))
        self.assertLess(told.index(["ba"]), told.index(["aa", "ab"]))

    def test_each_once_in_order(self):
        for picture in SAMPLES + [["ababab"] * 6, ["abab", "baba"], ["aaa", "aba", "aaa"]]:
            with self.subTest(picture):
                self.assertEqual(seen_in(picture), seen_by_cells(picture))

    def test_parts_and_turnings_of_seen_ones_are_seen(self):
        told = seen_in(["aab", "cba"])
        for picture in told:
            rows, columns = size_of(picture)
            for t in range(8):
                self.assertIn(turned(picture, t), told)
            for side_by_side, many in ((True, columns), (False, rows)):
                for at in range(1, many):
                    for part in parted(picture, side_by_side, at):
                        self.assertIn(part, told)


class OwnListsTest(unittest.TestCase):
    def test_what_is_handed_in_stays(self):
        for picture in SAMPLES:
            kept = copy.deepcopy(picture)
            for t in range(8):
                turned(picture, t)
            seen_in(picture)
            self.assertEqual(picture, kept)

    def test_a_told_picture_is_the_askers_own(self):
        for t in range(8):
            for shape in (["a"], ["ab", "ba"], ["abc", "def"]):
                picture = list(shape)
                told = turned(picture, t)
                self.assertIs(type(told), list)
                told[0] = "spoiled"
                told.append("spoiled")
                self.assertEqual(picture, shape)
                self.assertEqual(turned(picture, t), turned_by_cells(shape, t))

    def test_seen_pictures_are_the_askers_own(self):
        picture = ["ab", "ba"]
        told = seen_in(picture)
        asked = copy.deepcopy(told)
        self.assertEqual(len({id(seen) for seen in told}), len(told))
        for seen in told:
            self.assertIs(type(seen), list)
            seen[0] = "spoiled"
            seen.append("spoiled")
        told.append(["spoiled"])
        self.assertEqual(picture, ["ab", "ba"])
        self.assertEqual(seen_in(picture), asked)

    def test_changing_the_picture_changes_nothing_told(self):
        picture = ["ab", "ba"]
        told, asked = seen_in(picture), seen_by_cells(picture)
        same = turned(picture, 0)
        picture[0] = "zz"
        self.assertEqual(told, asked)
        self.assertEqual(same, ["ab", "ba"])


if __name__ == "__main__":
    unittest.main()
