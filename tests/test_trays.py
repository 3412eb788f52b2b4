"""Tests of slidetray/trays.py."""

import copy
import inspect
import itertools
import unittest

from slidetray import trays
from slidetray.errors import BadSlides, BadTray
from slidetray.trays import moved, thinned, undone, ways
from tests.samples import (
    COLUMN, LETTERS, ONE, ROW, SQUARE, numbered, plainly_moved, sides, texts,
    wrong_trays,
)

PAIRS = ("ud", "du", "lr", "rl")

NO_TEXTS = [
    None, True, False, 0, 1, 1.5, b"", b"u", bytearray(b"u"), [], ["u"],
    ["u", "d"], (), ("u",), {}, {"u": "d"}, set(), {"u"}, frozenset("u"),
    range(0), iter("u"), object(), str, len,
]
NO_SLIDES = [
    "U", "D", "L", "R", "x", "n", "0", " ", "u ", " u", "u d", "u,d", "u\n",
    "\n", "\t", "\0", "-", "udlrx", "xudlr", "udxlr", "up", "UDLR",
    "\u00fc", "\u0501", "\uff55", "\ud800",
]


def taken_out(slides, turn):
    """Thinned by taking out one pair after the other, in a given turn."""
    while any(pair in slides for pair in turn):
        for pair in turn:
            slides = slides.replace(pair, "", 1)
    return slides


class Trays(unittest.TestCase):
    def same(self, told, wanted):
        """Equal, and of plain lists of numbers (True is not 1 here)."""
        self.assertEqual(told, wanted)
        self.assertIsInstance(told, list)
        for row in told:
            self.assertIsInstance(row, list)
            for number in row:
                self.assertIs(type(number), int)


class Moved(Trays):
    def test_each_letter(self):
        told = {
            "u": [[1, 0, 3], [4, 2, 5], [6, 7, 8]],
            "d": [[1, 2, 3], [4, 7, 5], [6, 0, 8]],
            "l": [[1, 2, 3], [0, 4, 5], [6, 7, 8]],
            "r": [[1, 2, 3], [4, 5, 0], [6, 7, 8]],
        }
        for letter, wanted in told.items():
            with self.subTest(letter=letter):
                self.same(moved(SQUARE, letter), wanted)

    def test_slides_are_done_one_behind_the_other(self):
        self.same(moved(SQUARE, "ul"), [[0, 1, 3], [4, 2, 5], [6, 7, 8]])
        self.same(moved(SQUARE, "lu"), [[0, 2, 3], [1, 4, 5], [6, 7, 8]])
        self.same(moved(SQUARE, "rdllu"), [[1, 2, 3], [0, 5, 8], [4, 6, 7]])

    def test_no_slides(self):
        for rows, columns in sides():
            tray = numbered(rows, columns)
            self.same(moved(tray, ""), tray)

    def test_one_place(self):
        self.same(moved(ONE, ""), [[0]])
        for letter in LETTERS:
            with self.assertRaises(BadSlides):
                moved(ONE, letter)

    def test_one_row(self):
        self.same(moved(ROW, "ll"), [[0, 1, 2, 3, 4, 5]])
        self.same(moved(ROW, "rrr"), [[1, 2, 3, 4, 5, 0]])
        for slides in ("u", "d", "lll", "rrrr", "lu", "rd"):
            with self.subTest(slides=slides), self.assertRaises(BadSlides):
                moved(ROW, slides)

    def test_one_column(self):
        self.same(moved(COLUMN, "uu"), [[0], [1], [2], [3], [4], [5]])
        self.same(moved(COLUMN, "ddd"), [[1], [2], [3], [4], [5], [0]])
        for slides in ("l", "r", "uuu", "dddd", "ul", "dr"):
            with self.subTest(slides=slides), self.assertRaises(BadSlides):
                moved(COLUMN, slides)

    def test_six_rows_and_columns(self):
        tray = numbered(6, 6)
        self.same(
            moved(tray, "rrrrrddddd"),
            [
                [1, 2, 3, 4, 5, 11],
                [6, 7, 8, 9, 10, 17],
                [12, 13, 14, 15, 16, 23],
                [18, 19, 20, 21, 22, 29],
                [24, 25, 26, 27, 28, 35],
                [30, 31, 32, 33, 34, 0],
            ],
        )
        for slides in ("rrrrrr", "dddddd", "rrrrrdddddd"):
            with self.subTest(slides=slides), self.assertRaises(BadSlides):
                moved(tray, slides)

    def test_off_each_side_of_each_tray(self):
        for rows, columns in sides():
            last = rows * columns - 1
            for empty, letter in ((0, "u"), (0, "l"), (last, "d"), (last, "r")):
                tray = numbered(rows, columns, empty)
                with self.subTest(tray=tray, letter=letter):
                    with self.assertRaises(BadSlides):
                        moved(tray, letter)

    def test_off_the_tray_and_back_is_refused_too(self):
        for slides in ("ud", "lr", "rrl", "ddu", "rlu"):
            with self.subTest(slides=slides), self.assertRaises(BadSlides):
                moved([[0, 1], [2, 3]], slides)

    def test_as_done_plainly(self):
        starts = [
            numbered(2, 2, 3), numbered(2, 3, 4), numbered(3, 2, 1),
            numbered(1, 4, 2), numbered(4, 1, 1), SQUARE,
        ]
        for tray, slides in itertools.product(starts, list(texts(5))):
            wanted = plainly_moved(tray, slides)
            if wanted is None:
                with self.assertRaises(BadSlides):
                    moved(tray, slides)
            else:
                self.same(moved(tray, slides), wanted)

    def test_long_slides(self):
        self.same(moved([[0, 1], [2, 3]], "rdlu" * 30000), [[0, 1], [2, 3]])
        with self.assertRaises(BadSlides):
            moved([[0, 1], [2, 3]], "rdlu" * 30000 + "u")


class Ways(Trays):
    def test_each_place_of_three_by_three(self):
        wanted = ["dr", "dlr", "dl", "udr", "udlr", "udl", "ur", "ulr", "ul"]
        for empty in range(9):
            with self.subTest(empty=empty):
                self.assertEqual(ways(numbered(3, 3, empty)), wanted[empty])

    def test_one_place(self):
        self.assertEqual(ways(ONE), "")

    def test_one_row_and_one_column(self):
        self.assertEqual(ways(ROW), "lr")
        self.assertEqual(ways([[0, 1, 2, 3, 4, 5]]), "r")
        self.assertEqual(ways([[5, 4, 3, 2, 1, 0]]), "l")
        self.assertEqual(ways(COLUMN), "ud")
        self.assertEqual(ways([[0], [1], [2], [3], [4], [5]]), "d")
        self.assertEqual(ways([[1], [0]]), "u")

    def test_two_by_two(self):
        told = [ways(numbered(2, 2, empty)) for empty in range(4)]
        self.assertEqual(told, ["dr", "dl", "ur", "ul"])

    def test_each_place_of_each_tray(self):
        for rows, columns in sides():
            for empty in range(rows * columns):
                tray = numbered(rows, columns, empty)
                wanted = "".join(
                    letter for letter in LETTERS
                    if plainly_moved(tray, letter) is not None
                )
                self.assertEqual(ways(tray), wanted)

    def test_they_are_those_that_moved_does(self):
        for tray in (ONE, SQUARE, ROW, COLUMN, numbered(6, 6, 35)):
            for letter in LETTERS:
                if letter in ways(tray):
                    moved(tray, letter)
                else:
                    with self.assertRaises(BadSlides):
                        moved(tray, letter)


class Undone(Trays):
    def test_each_letter(self):
        self.assertEqual(
            [undone(letter) for letter in LETTERS], ["d", "u", "r", "l"])

    def test_the_last_one_is_taken_back_first(self):
        self.assertEqual(undone("ul"), "rd")
        self.assertEqual(undone("uldd"), "uurd")
        self.assertEqual(undone("rrdlu"), "drull")

    def test_no_slides(self):
        self.assertEqual(undone(""), "")

    def test_nothing_is_thinned(self):
        self.assertEqual(undone("udlr"), "lrud")
        self.assertEqual(undone("uuddu"), "duudd")

    def test_twice_gives_the_slides_again(self):
        for slides in texts(5):
            self.assertEqual(undone(undone(slides)), slides)

    def test_it_leads_back(self):
        tray = numbered(5, 5, 12)
        for slides in texts(5):
            try:
                there = moved(tray, slides)
            except BadSlides:
                continue
            self.same(moved(there, undone(slides)), tray)

    def test_slides_off_every_tray_are_undone_too(self):
        self.assertEqual(undone("u" * 9 + "l" * 9), "r" * 9 + "d" * 9)

    def test_long_slides(self):
        self.assertEqual(undone("ul" * 100000), "rd" * 100000)


class Thinned(Trays):
    def test_what_the_next_one_takes_back_is_left_out(self):
        for pair in PAIRS:
            with self.subTest(pair=pair):
                self.assertEqual(thinned(pair), "")
                self.assertEqual(thinned("l" + pair + "l"), "ll")
                self.assertEqual(thinned("u" + pair + "u"), "uu")

    def test_what_is_not_taken_back_stays(self):
        for slides in ("", "u", "d", "l", "r", "uu", "ul", "dr",
                       "uldr", "uldruldr", "rrdd", "lurd"):
            with self.subTest(slides=slides):
                self.assertEqual(thinned(slides), slides)

    def test_as_long_as_there_are_such(self):
        self.assertEqual(thinned("uudd"), "")
        self.assertEqual(thinned("ulrd"), "")
        self.assertEqual(thinned("ludrr"), "r")
        self.assertEqual(thinned("lludrrd"), "d")
        self.assertEqual(thinned("udlr"), "")
        self.assertEqual(thinned("udu"), "u")
        self.assertEqual(thinned("udud" + "r"), "r")
        self.assertEqual(thinned("ldudu" + "l" + "r"), "l")

    def test_the_same_however_one_goes_about_it(self):
        for slides in texts(6):
            told = thinned(slides)
            self.assertEqual(told, taken_out(slides, PAIRS))
            self.assertEqual(told, taken_out(slides, PAIRS[::-1]))
            self.assertEqual(told, taken_out(slides[::-1], PAIRS)[::-1])

    def test_slides_and_their_undone_leave_none(self):
        for slides in texts(5):
            self.assertEqual(thinned(slides + undone(slides)), "")
            self.assertEqual(thinned(undone(slides) + slides), "")

    def test_thinned_slides_lead_to_the_same_tray(self):
        tray = numbered(5, 5, 12)
        for slides in texts(5):
            try:
                there = moved(tray, slides)
            except BadSlides:
                continue
            self.same(moved(tray, thinned(slides)), there)

    def test_long_slides(self):
        self.assertEqual(thinned("u" * 100000 + "d" * 100000), "")
        self.assertEqual(thinned("lr" * 100000 + "u"), "u")
        self.assertEqual(thinned("ul" * 100000), "ul" * 100000)


class Refused(Trays):
    def test_what_is_no_tray(self):
        for why, tray in wrong_trays():
            with self.subTest(why=why):
                with self.assertRaises(BadTray):
                    moved(tray, "")
                with self.assertRaises(BadTray):
                    ways(tray)

    def test_what_is_no_text(self):
        for slides in NO_TEXTS:
            with self.subTest(slides=slides):
                with self.assertRaises(BadSlides):
                    moved(SQUARE, slides)
                with self.assertRaises(BadSlides):
                    undone(slides)
                with self.assertRaises(BadSlides):
                    thinned(slides)

    def test_what_is_no_letter_of_the_four(self):
        for slides in NO_SLIDES:
            with self.subTest(slides=slides):
                with self.assertRaises(BadSlides):
                    moved(SQUARE, slides)
                with self.assertRaises(BadSlides):
                    undone(slides)
                with self.assertRaises(BadSlides):
                    thinned(slides)

    def test_a_wrong_letter_behind_good_ones_that_lead_nowhere(self):
        with self.assertRaises(BadSlides):
            thinned("udx")
        with self.assertRaises(BadSlides):
            thinned("uxd")
        with self.assertRaises(BadSlides):
            moved(SQUARE, "ud" * 1000 + "x")

    def test_the_tray_goes_first(self):
        slides_for_all = NO_TEXTS + NO_SLIDES + ["u", "l", "uuuuuuu"]
        for why, tray in wrong_trays():
            for slides in (None, "x", "u", "uuuuuuu"):
                with self.subTest(why=why, slides=slides):
                    with self.assertRaises(BadTray):
                        moved(tray, slides)
        for slides in slides_for_all:
            with self.subTest(slides=slides), self.assertRaises(BadTray):
                moved([[0, 2]], slides)

    def test_limits_are_within(self):
        for rows, columns in sides():
            tray = numbered(rows, columns)
            self.same(moved(tray, ""), tray)
            self.assertIsInstance(ways(tray), str)


class HandedInAndTold(Trays):
    def test_what_is_handed_in_stays_as_it_was(self):
        for tray in (ONE, SQUARE, ROW, COLUMN, numbered(6, 6, 17)):
            before = copy.deepcopy(tray)
            rows = list(tray)
            for slides in itertools.chain(texts(3), ("uuuuuuu", "rx", "ux")):
                try:
                    moved(tray, slides)
                except BadSlides:
                    pass
                ways(tray)
                self.assertEqual(tray, before)
                for row, same_row in zip(tray, rows):
                    self.assertIs(row, same_row)

    def test_a_tray_that_is_refused_stays_as_it_was(self):
        for tray in ([[3, 1], [2, 3]], [[0, 1], [2]], [[True, 0]], []):
            before = copy.deepcopy(tray)
            with self.assertRaises(BadTray):
                moved(tray, "u")
            with self.assertRaises(BadTray):
                ways(tray)
            self.assertEqual(repr(tray), repr(before))

    def test_lists_that_are_told_are_new(self):
        for slides in ("", "u", "ud", "rdl"):
            told = moved(SQUARE, slides)
            self.assertIsNot(told, SQUARE)
            for row in told:
                for handed_in in SQUARE:
                    self.assertIsNot(row, handed_in)
            for one, other in itertools.combinations(told, 2):
                self.assertIsNot(one, other)

    def test_lists_that_are_told_are_the_askers_own(self):
        for slides in ("", "u", "ud", "rdl"):
            tray = copy.deepcopy(SQUARE)
            told = moved(tray, slides)
            wanted = copy.deepcopy(told)
            again = moved(tray, slides)
            for row in told:
                row.clear()
            told.clear()
            self.same(tray, SQUARE)
            self.same(again, wanted)
            self.same(moved(tray, slides), wanted)

    def test_what_is_told_does_not_follow_what_was_handed_in(self):
        tray = copy.deepcopy(SQUARE)
        told = moved(tray, "")
        tray[0][0], tray[0][1] = tray[0][1], tray[0][0]
        tray.pop()
        self.same(told, SQUARE)

    def test_texts_are_told(self):
        for told in (ways(SQUARE), ways(ONE), undone(""), undone("ul"),
                     thinned(""), thinned("ul"), thinned("ud")):
            self.assertIs(type(told), str)


class Interface(unittest.TestCase):
    def test_names_arguments_and_file(self):
        wanted = {
            "moved": ["tray", "slides"],
            "ways": ["tray"],
            "undone": ["slides"],
            "thinned": ["slides"],
        }
        for name, arguments in wanted.items():
            with self.subTest(name=name):
                function = getattr(trays, name)
                self.assertEqual(function.__module__, "slidetray.trays")
                self.assertEqual(
                    list(inspect.signature(function).parameters), arguments)

    def test_arguments_by_name(self):
        self.assertEqual(moved(tray=[[0, 1]], slides="r"), [[1, 0]])
        self.assertEqual(ways(tray=[[0, 1]]), "r")
        self.assertEqual(undone(slides="r"), "l")
        self.assertEqual(thinned(slides="rl"), "")


if __name__ == "__main__":
    unittest.main()
