"""Promises 2 and 4 to 8, 11 as far as parting goes: quiltlaw.pictures."""

import copy
import inspect
import itertools
import unittest

from slow import LETTERS, sample

from quiltlaw import pictures
from quiltlaw.errors import NoFit, NoPicture
from quiltlaw.pictures import (above, beside, checked, cut_out, parted, read_picture,
                               shown, size_of, windows_of)

SIZES = [(r, c) for r in range(1, 7) for c in range(1, 7)]


class InterfaceTest(unittest.TestCase):
    def test_names_and_arguments(self):
        asked = {
            "checked": ["rows", "signs"], "size_of": ["picture"], "shown": ["picture"],
            "read_picture": ["text", "signs"], "windows_of": ["rows", "columns"],
            "cut_out": ["picture", "window"], "beside": ["one", "other"],
            "above": ["one", "other"], "parted": ["picture", "side_by_side", "at"],
        }
        for name, arguments in asked.items():
            with self.subTest(name):
                told = inspect.signature(getattr(pictures, name)).parameters
                self.assertEqual(list(told), arguments)


class RefusalTest(unittest.TestCase):
    def refused(self, why, taken, *handed):
        with self.assertRaises(NoPicture) as caught:
            taken(*handed)
        self.assertIs(type(caught.exception), NoPicture)
        self.assertEqual(caught.exception.why, why)
        self.assertIs(type(caught.exception.why), tuple)
        for number in caught.exception.why[1:]:
            self.assertIs(type(number), int)


class CheckedTest(RefusalTest):
    def test_each_size_is_taken(self):
        for rows, columns in SIZES:
            picture = sample(rows, columns)
            self.assertEqual(checked(picture, LETTERS), picture)

    def test_signs_may_be_one_or_many_in_any_order(self):
        self.assertEqual(checked(["a"], "a"), ["a"])
        self.assertEqual(checked(["az", "za"], "za"), ["az", "za"])
        self.assertEqual(checked(["bb"], "cba"), ["bb"])

    def test_how_many_rows(self):
        self.refused(("rows", 0), checked, [], "a")
        for n in (7, 8, 40, 41):
            self.refused(("rows", n), checked, ["a"] * n, "a")

    def test_rows_ahead_of_all_else(self):
        self.refused(("rows", 7), checked, ["", "X"] + [""] * 5, "a")

    def test_empty_row(self):
        self.refused(("row", 0), checked, [""], "a")
        self.refused(("row", 0), checked, ["", ""], "a")
        self.refused(("row", 1), checked, ["a", "", "a"], "a")
        self.refused(("row", 5), checked, ["a"] * 5 + [""], "a")

    def test_row_longer_than_six(self):
        for n in (7, 8, 100):
            self.refused(("row", 0), checked, ["a" * n], "a")
            self.refused(("row", 0), checked, ["a" * n, "a" * n], "a")
            self.refused(("row", 1), checked, ["a" * 6, "a" * n], "a")

    def test_row_unlike_row_0(self):
        self.refused(("row", 1), checked, ["ab", "a"], "ab")
        self.refused(("row", 1), checked, ["a", "ab"], "ab")
        self.refused(("row", 2), checked, ["aa", "aa", "a", "a"], "a")
        self.refused(("row", 5), checked, ["aa"] * 5 + ["aaa"], "a")

    def test_sign_at_each_place(self):
        for k, j in itertools.product(range(6), repeat=2):
            rows = ["abcabc"] * 6
            rows[k] = rows[k][:j] + "d" + rows[k][j + 1:]
            self.refused(("sign", k, j), checked, rows, "abc")

    def test_first_wrong_sign_of_the_first_wrong_row(self):
        self.refused(("sign", 0, 1), checked, ["axx", "xxx"], "a")
        self.refused(("sign", 1, 0), checked, ["aa", "xx", "xa"], "a")

    def test_signs_that_are_no_letters(self):
        for sign in " ~/A0.{`":
            self.refused(("sign", 0, 1), checked, ["a" + sign], LETTERS)

    def test_row_by_row(self):
        self.refused(("sign", 0, 0), checked, ["x", ""], "a")
        self.refused(("sign", 0, 1), checked, ["ax", "aaa"], "a")
        self.refused(("row", 1), checked, ["aa", "a", "xx"], "a")

    def test_length_ahead_of_sign_in_a_row(self):
        self.refused(("row", 0), checked, ["xxxxxxx"], "a")
        self.refused(("row", 1), checked, ["aa", "xxx"], "a")


class WrittenTest(RefusalTest):
    def test_size(self):
        for rows, columns in SIZES:
            told = size_of(sample(rows, columns))
            self.assertEqual(told, (rows, columns))
            self.assertIs(type(told), tuple)
            self.assertEqual([type(number) for number in told], [int, int])

    def test_shown(self):
        self.assertEqual(shown(["ab", "ba"]), "ab/ba")
        self.assertEqual(shown(["a"]), "a")
        self.assertEqual(shown(["a", "b", "c"]), "a/b/c")
        self.assertEqual(shown(["abcdef"]), "abcdef")

    def test_read(self):
        self.assertEqual(read_picture("ab/ba", "ab"), ["ab", "ba"])
        self.assertEqual(read_picture("a", "a"), ["a"])
        for rows, columns in SIZES:
            picture = sample(rows, columns)
            self.assertEqual(read_picture(shown(picture), LETTERS), picture)

    def test_read_without_signs(self):
        self.refused(("row", 0), read_picture, "", "a")

    def test_read_empty_rows(self):
        self.refused(("row", 0), read_picture, "/", "a")
        self.refused(("row", 0), read_picture, "/a", "a")
        self.refused(("row", 1), read_picture, "a/", "a")
        self.refused(("row", 1), read_picture, "a//a", "a")

    def test_read_too_much(self):
        self.refused(("rows", 7), read_picture, "a/a/a/a/a/a/a", "a")
        self.refused(("rows", 7), read_picture, "//////", "a")
        self.refused(("row", 0), read_picture, "aaaaaaa", "a")

    def test_read_unlike_rows_and_signs(self):
        self.refused(("row", 1), read_picture, "ab/a", "ab")
        self.refused(("sign", 1, 0), read_picture, "ab/ca", "ab")
        self.refused(("sign", 0, 1), read_picture, "a /ab", "ab")
        self.refused(("sign", 0, 0), read_picture, "A", "a")


class WindowsTest(unittest.TestCase):
    def test_all_windows_rising(self):
        for rows, columns in SIZES:
            places = itertools.product(range(rows), range(columns),
                                       range(rows + 1), range(columns + 1))
            asked = sorted(w for w in places if w[0] < w[2] and w[1] < w[3])
            told = windows_of(rows, columns)
            self.assertEqual(told, asked)
            self.assertIs(type(told), list)
            self.assertTrue(all(type(window) is tuple for window in told))

    def test_small_sizes(self):
        self.assertEqual(windows_of(1, 1), [(0, 0, 1, 1)])
        self.assertEqual(windows_of(1, 2), [(0, 0, 1, 1), (0, 0, 1, 2), (0, 1, 1, 2)])
        self.assertEqual(windows_of(2, 1), [(0, 0, 1, 1), (0, 0, 2, 1), (1, 0, 2, 1)])
        self.assertEqual(len(windows_of(6, 6)), 441)

    def test_cut_out(self):
        picture = ["abc", "def", "ghi"]
        self.assertEqual(cut_out(picture, (0, 0, 1, 1)), ["a"])
        self.assertEqual(cut_out(picture, (1, 0, 3, 2)), ["de", "gh"])
        self.assertEqual(cut_out(picture, (2, 2, 3, 3)), ["i"])
        self.assertEqual(cut_out(picture, (0, 1, 3, 2)), ["b", "e", "h"])

    def test_cut_out_cell_by_cell(self):
        for rows, columns in ((1, 1), (1, 6), (6, 1), (3, 4), (6, 6)):
            picture = sample(rows, columns)
            for window in windows_of(rows, columns):
                top, left, bottom, right = window
                told = cut_out(picture, window)
                self.assertEqual(size_of(checked(told, LETTERS)), (bottom - top, right - left))
                for i, j in itertools.product(range(bottom - top), range(right - left)):
                    self.assertEqual(told[i][j], picture[top + i][left + j])


class PutTest(unittest.TestCase):
    def unfit(self, put, one, other):
        with self.assertRaises(NoFit) as caught:
            put(one, other)
        self.assertIs(type(caught.exception), NoFit)

    def test_ordinary(self):
        self.assertEqual(beside(["ab", "cd"], ["e", "f"]), ["abe", "cdf"])
        self.assertEqual(above(["ab", "cd"], ["ef"]), ["ab", "cd", "ef"])
        self.assertEqual(beside(["a"], ["b"]), ["ab"])
        self.assertEqual(above(["a"], ["b"]), ["a", "b"])
        self.assertEqual(above(["aaaaaa"], ["bbbbbb"]), ["aaaaaa", "bbbbbb"])
        self.assertEqual(beside(["a"] * 6, ["b"] * 6), ["ab"] * 6)

    def test_just_six_and_seven(self):
        self.assertEqual(beside(["abc"], ["def"]), ["abcdef"])
        self.assertEqual(above(["a", "b"], ["c", "d", "e", "f"]), ["a", "b", "c", "d", "e", "f"])
        self.unfit(beside, ["abc"], ["defg"])
        self.unfit(beside, ["abcdef"], ["g"])
        self.unfit(above, ["a", "b", "c"], ["d", "e", "f", "g"])
        self.unfit(above, ["a"], ["b"] * 6)

    def test_unlike_sides(self):
        self.unfit(beside, ["a"], ["a", "a"])
        self.unfit(beside, ["a", "a"], ["a"])
        self.unfit(above, ["a"], ["aa"])
        self.unfit(above, ["aa"], ["a"])

    def test_all_pairs_of_sizes(self):
        for (r, c), (s, d) in itertools.product(SIZES, repeat=2):
            one, other = sample(r, c), sample(s, d, 9)
            if r == s and c + d <= 6:
                self.assertEqual(beside(one, other), [one[i] + other[i] for i in range(r)])
            else:
                self.unfit(beside, one, other)
            if c == d and r + s <= 6:
                self.assertEqual(above(one, other), [*one, *other])
            else:
                self.unfit(above, one, other)


class PartedTest(unittest.TestCase):
    def test_first_and_last_place(self):
        picture = ["abc", "def", "ghi", "jkl"]
        self.assertEqual(parted(picture, True, 1), (["a", "d", "g", "j"], ["bc", "ef", "hi", "kl"]))
        self.assertEqual(parted(picture, True, 2), (["ab", "de", "gh", "jk"], ["c", "f", "i", "l"]))
        self.assertEqual(parted(picture, False, 1), (["abc"], ["def", "ghi", "jkl"]))
        self.assertEqual(parted(picture, False, 3), (["abc", "def", "ghi"], ["jkl"]))

    def test_put_together_again(self):
        for rows, columns in SIZES:
            picture = sample(rows, columns)
            for side_by_side, put, many in ((True, beside, columns), (False, above, rows)):
                for at in range(1, many):
                    told = parted(picture, side_by_side, at)
                    self.assertIs(type(told), tuple)
                    self.assertEqual(put(*told), picture)
                    self.assertEqual(size_of(told[0]), (rows, at) if side_by_side else (at, columns))


class OwnListsTest(unittest.TestCase):
    def calls(self):
        """Each function that tells a list, as (function, what is handed in)."""
        return [
            (checked, (["ab", "ba"], "ab")), (read_picture, ("ab/ba", "ab")),
            (windows_of, (2, 2)), (cut_out, (["ab", "ba"], (0, 0, 2, 2))),
            (cut_out, (["ab", "ba"], (0, 0, 1, 2))), (beside, (["a"], ["b"])),
            (above, (["a"], ["b"])), (parted, (["ab", "ba"], True, 1)),
            (parted, (["ab", "ba"], False, 1)),
        ]

    def test_what_is_handed_in_stays(self):
        for function, handed in self.calls() + [(size_of, (["ab"],)), (shown, (["ab", "ba"],))]:
            with self.subTest(function.__name__):
                kept = copy.deepcopy(handed)
                function(*handed)
                self.assertEqual(handed, kept)

    def test_what_is_refused_stays(self):
        for function, handed in ((checked, (["ab", "a"], "ab")), (checked, ([], "a")),
                                 (beside, (["a"], ["b", "b"])), (above, (["a"], ["bb"]))):
            kept = copy.deepcopy(handed)
            with self.assertRaises((NoPicture, NoFit)):
                function(*handed)
            self.assertEqual(handed, kept)

    def test_told_lists_are_the_askers_own(self):
        for function, handed in self.calls():
            with self.subTest(function.__name__):
                kept = copy.deepcopy(handed)
                told = function(*handed)
                asked = copy.deepcopy(told)
                for part in told if type(told) is tuple else (told,):
                    self.assertIs(type(part), list)
                    part.append("spoiled")
                    part[0] = "spoiled"
                self.assertEqual(handed, kept)
                self.assertEqual(function(*handed), asked)

    def test_changing_what_was_handed_in_changes_nothing_told(self):
        for function, handed in self.calls():
            with self.subTest(function.__name__):
                told = function(*handed)
                asked = copy.deepcopy(told)
                for value in handed:
                    if type(value) is list:
                        value[0] = "spoiled"
                        value.append("spoiled")
                self.assertEqual(told, asked)

    def test_a_picture_put_by_itself(self):
        picture = ["ab"]
        told = above(picture, picture)
        told.append("zz")
        self.assertEqual(picture, ["ab"])
        self.assertEqual(beside(picture, picture), ["abab"])


if __name__ == "__main__":
    unittest.main()
