"""Tests of slidetray/answers.py."""

import copy
import inspect
import itertools
import unittest

from slidetray import answers
from slidetray.answers import Answer, Led, Odd, Passed
from tests.samples import (
    COLUMN, LETTERS, ONE, ROW, SQUARE, all_trays, exchanged, is_broad,
    numbered, plainly_apart, plainly_crossed, plainly_moved, plainly_passed,
    shuffled, sides, some_slides, texts,
)

FIELDS = {"Led": ["slides"], "Odd": ["crossed", "steps"],
          "Passed": ["one", "other"]}

NARROW = [(1, many) for many in range(1, 7)]
NARROW += [(many, 1) for many in range(2, 7)]


class Classes(unittest.TestCase):
    def test_they_stand_straight_under_answer(self):
        self.assertEqual(Answer.__bases__, (object,))
        for name in FIELDS:
            self.assertEqual(getattr(answers, name).__bases__, (Answer,))

    def test_they_are_defined_in_their_file(self):
        for name in ["Answer", *FIELDS]:
            made = getattr(answers, name)
            self.assertEqual(made.__name__, name)
            self.assertEqual(made.__module__, "slidetray.answers")

    def test_their_arguments(self):
        for name, fields in FIELDS.items():
            made = getattr(answers, name)
            self.assertEqual(
                list(inspect.signature(made).parameters), fields)
            self.assertEqual(
                list(inspect.signature(made.shows).parameters),
                ["self", "one", "other"])

    def test_shows_is_defined_in_each(self):
        for name in FIELDS:
            self.assertIn("shows", vars(getattr(answers, name)))

    def test_fields_are_set_when_they_are_made(self):
        self.assertEqual(vars(Led("ud")), {"slides": "ud"})
        self.assertEqual(vars(Odd(3, 4)), {"crossed": 3, "steps": 4})
        self.assertEqual(vars(Passed(5, 2)), {"one": 5, "other": 2})

    def test_arguments_by_name(self):
        self.assertEqual(Led(slides="l").slides, "l")
        odd = Odd(steps=1, crossed=2)
        self.assertEqual((odd.crossed, odd.steps), (2, 1))
        passed = Passed(other=1, one=2)
        self.assertEqual((passed.one, passed.other), (2, 1))
        self.assertIs(Led("r").shows(one=[[0, 1]], other=[[1, 0]]), True)
        self.assertIs(passed.shows(other=[[2, 1, 0]], one=[[1, 0, 2]]), True)
        self.assertIs(
            odd.shows(other=[[1, 0], [2, 3]], one=[[0, 2], [1, 3]]), True)


class LedShows(unittest.TestCase):
    def asked(self, slides, one, other, wanted):
        with self.subTest(slides=slides, one=one, other=other):
            self.assertIs(Led(slides).shows(one, other), wanted)

    def test_slides_that_lead_there(self):
        self.asked("u", SQUARE, [[1, 0, 3], [4, 2, 5], [6, 7, 8]], True)
        self.asked("ul", SQUARE, [[0, 1, 3], [4, 2, 5], [6, 7, 8]], True)
        self.asked("rr", ROW, [[1, 2, 3, 4, 0, 5]], True)
        self.asked("uu", COLUMN, [[0], [1], [2], [3], [4], [5]], True)

    def test_no_slides(self):
        for rows, columns in sides():
            tray = numbered(rows, columns)
            self.asked("", tray, copy.deepcopy(tray), True)
            if rows * columns > 1:
                self.asked("", tray, numbered(rows, columns, 1), False)

    def test_longer_ways_lead_there_too(self):
        goal = [[1, 0, 3], [4, 2, 5], [6, 7, 8]]
        for slides in ("udu", "lru", "url" + "lr", "rdlu" * 3 + "u"):
            self.asked(slides, SQUARE, goal, True)
        self.asked("rdlu" * 3000, SQUARE, SQUARE, True)

    def test_one_more_one_fewer_another_one(self):
        for tray in (SQUARE, ROW, COLUMN, numbered(2, 2), numbered(6, 6, 14)):
            slides = some_slides(tray, 9, "changed")
            goal = plainly_moved(tray, slides)
            self.asked(slides, tray, goal, True)
            for at in range(len(slides) + 1):
                for letter in LETTERS:
                    more = slides[:at] + letter + slides[at:]
                    another = slides[:at] + letter + slides[at + 1:]
                    for changed in (more, another):
                        wanted = plainly_moved(tray, changed) == goal
                        self.asked(changed, tray, goal, wanted)
                    self.asked(more, tray, goal, False)
                fewer = slides[:at] + slides[at + 1:]
                self.asked(fewer, tray, goal, fewer == slides)

    def test_other_letters(self):
        for slides in ("U", "x", " ", "u ", " u", "ux", "xu", "u\n", "\0",
                       "u,", "0", "up", "\u00fc", "\uff55", "\ud800",
                       "udlrx", "u" * 5000 + "x"):
            self.asked(slides, SQUARE, [[1, 0, 3], [4, 2, 5], [6, 7, 8]],
                       False)
            self.asked(slides, SQUARE, SQUARE, False)
            self.asked(slides, ONE, ONE, False)

    def test_off_the_tray(self):
        for letter in LETTERS:
            self.asked(letter, ONE, ONE, False)
            self.asked(letter * 2, SQUARE, SQUARE, False)
        # Off the tray and back again, as if there were room or none.
        tray = [[0, 1], [2, 3]]
        for slides in ("ud", "lr", "u", "l", "rrl", "rrll", "ddu", "rlu"):
            self.asked(slides, tray, tray, False)
            self.asked(slides, tray, [[1, 0], [2, 3]], False)
        self.asked("rrr", tray, [[1, 0], [2, 3]], False)
        self.asked("dud", [[0, 1, 2]], [[0, 1, 2]], False)
        self.asked("lrl", [[0], [1]], [[0], [1]], False)

    def test_not_on_into_the_next_row(self):
        self.asked("rr", [[0, 1], [2, 3]], [[1, 2], [0, 3]], False)
        self.asked("l", [[1, 2], [0, 3]], [[1, 0], [2, 3]], False)

    def test_the_trays_exchanged(self):
        there = plainly_moved(SQUARE, "ul")
        self.asked("ul", there, SQUARE, False)
        self.asked("rd", there, SQUARE, True)
        self.asked("rd", SQUARE, there, False)
        # Thrice around the four places all stand as before.
        around = plainly_moved(numbered(2, 2), "rdlu")
        self.asked("rdlu", around, numbered(2, 2), False)
        self.asked("rdlu" * 2, around, numbered(2, 2), True)

    def test_all_texts_between_all_trays_of_two_and_two(self):
        start = [[0, 1], [2, 3]]
        for other in all_trays(2, 2):
            for slides in texts(4):
                wanted = plainly_moved(start, slides) == other
                self.assertIs(Led(slides).shows(start, other), wanted)


class OddShows(unittest.TestCase):
    def asked(self, crossed, steps, one, other, wanted):
        with self.subTest(crossed=crossed, steps=steps, one=one, other=other):
            self.assertIs(Odd(crossed, steps).shows(one, other), wanted)

    def test_by_hand(self):
        one = [[1, 2], [3, 0]]
        self.asked(1, 0, one, [[2, 1], [3, 0]], True)
        self.asked(1, 0, [[2, 1], [3, 0]], one, True)
        # 0 before 3 is a pair too; 2 and 1 are the other one.
        self.asked(2, 1, one, [[2, 1], [0, 3]], True)
        self.asked(1, 1, one, [[2, 1], [0, 3]], False)
        # A step up takes the 0 past all that stand between.
        self.asked(3, 1, one, [[1, 0], [3, 2]], False)
        self.asked(2, 1, one, [[1, 0], [3, 2]], False)
        self.asked(2, 1, one, [[1, 0], [2, 3]], True)
        self.asked(3, 1, one, [[1, 0], [2, 3]], False)
        fifteen = numbered(4, 4, 15)
        self.asked(1, 0, fifteen, exchanged(fifteen, 14, 15), True)
        self.asked(25, 0, fifteen, exchanged(fifteen, 1, 15), False)
        self.asked(27, 0, fifteen, exchanged(fifteen, 1, 15), True)
        # Both numbers are crossed with the 14 between, and with each other.
        self.asked(29, 6, fifteen, exchanged(fifteen, 1, 0), True)

    def test_steps_are_up_and_down_and_to_the_sides(self):
        one = numbered(3, 4)
        other = exchanged(one, 0, 11)
        self.asked(21, 5, one, other, False)
        self.asked(21, 11, one, other, False)
        other = exchanged(other, 1, 2)
        self.asked(22, 5, one, other, True)
        self.asked(22, 11, one, other, False)
        other = exchanged(one, 0, 10)
        self.asked(19, 4, one, other, True)
        self.asked(19, 2, one, other, False)
        self.asked(19, 10, one, other, False)
        self.asked(4, 19, one, other, False)

    def test_all_counts_between_all_trays_of_two_and_two(self):
        for one, other in itertools.product(list(all_trays(2, 2)), repeat=2):
            crossed = plainly_crossed(one, other)
            steps = plainly_apart(one, other)
            odd = (crossed + steps) % 2 == 1
            for told in itertools.product(range(-1, 8), range(-1, 4)):
                self.assertIs(Odd(*told).shows(one, other),
                              odd and told == (crossed, steps))

    def test_as_counted_one_more_or_less(self):
        for rows, columns in itertools.product(range(2, 7), repeat=2):
            for seed in range(6):
                one = shuffled(rows, columns, "one%s" % seed)
                other = shuffled(rows, columns, seed)
                crossed = plainly_crossed(one, other)
                steps = plainly_apart(one, other)
                odd = (crossed + steps) % 2 == 1
                self.asked(crossed, steps, one, other, odd)
                self.asked(crossed, steps, other, one, odd)
                for more, further in itertools.product(range(-2, 3), repeat=2):
                    if (more, further) != (0, 0):
                        self.asked(crossed + more, steps + further,
                                   one, other, False)
                self.asked(-crossed, steps, one, other, odd and crossed == 0)
                self.asked(crossed + 10 ** 30, steps, one, other, False)

    def test_even_together_as_counted(self):
        for rows, columns in itertools.product(range(2, 7), repeat=2):
            one = numbered(rows, columns)
            self.asked(0, 0, one, one, False)
            other = plainly_moved(one, some_slides(one, 31, "even"))
            crossed = plainly_crossed(one, other)
            self.asked(crossed, plainly_apart(one, other), one, other, False)

    def test_of_one_row_or_one_column(self):
        self.asked(1, 0, [[1, 2, 0]], [[2, 1, 0]], False)
        self.asked(1, 0, [[1], [2], [0]], [[2], [1], [0]], False)
        self.asked(0, 0, ONE, ONE, False)
        self.asked(1, 0, ONE, ONE, False)
        self.asked(0, 1, ONE, ONE, False)
        found = 0
        for rows, columns in NARROW:
            one = numbered(rows, columns)
            for seed in range(30):
                other = shuffled(rows, columns, seed)
                crossed = plainly_crossed(one, other)
                steps = plainly_apart(one, other)
                self.asked(crossed, steps, one, other, False)
                found += (crossed + steps) % 2
        self.assertGreater(found, 0)


class PassedShows(unittest.TestCase):
    def asked(self, first, second, one, other, wanted):
        with self.subTest(first=first, second=second, one=one, other=other):
            self.assertIs(Passed(first, second).shows(one, other), wanted)

    def test_by_hand(self):
        for one, other in (
            ([[1, 2, 3, 0]], [[0, 2, 1, 3]]),
            ([[1], [2], [3], [0]], [[0], [2], [1], [3]]),
        ):
            self.asked(1, 2, one, other, True)
            self.asked(2, 1, one, other, True)
            self.asked(1, 3, one, other, False)
            self.asked(3, 2, one, other, False)
            # The empty place has gone past all of them: it is no piece.
            for piece in (1, 2, 3):
                self.asked(0, piece, one, other, False)
                self.asked(piece, 0, one, other, False)
            for both in range(-2, 6):
                self.asked(both, both, one, other, False)
            for beyond in (-4, -3, -2, -1, 4, 5, 36, 10 ** 30):
                for piece in range(4):
                    self.asked(beyond, piece, one, other, False)
                    self.asked(piece, beyond, one, other, False)

    def test_any_two_numbers_of_narrow_trays(self):
        for rows, columns in NARROW:
            many = rows * columns
            for seed in range(8):
                one = shuffled(rows, columns, seed)
                other = shuffled(rows, columns, "other%s" % seed)
                for told in itertools.product(range(-many, many + 3), repeat=2):
                    wanted = plainly_passed(one, other, *told)
                    self.asked(*told, one, other, wanted)
                    self.asked(*told, other, one, wanted)

    def test_all_trays_of_one_row_of_three_and_their_columns(self):
        for one, other in itertools.product(list(all_trays(1, 3)), repeat=2):
            stood = [[number] for number in one[0]]
            other_stood = [[number] for number in other[0]]
            for told in itertools.product(range(-1, 5), repeat=2):
                wanted = plainly_passed(one, other, *told)
                self.asked(*told, one, other, wanted)
                self.asked(*told, stood, other_stood, wanted)

    def test_the_same_tray_twice(self):
        for tray in (ONE, ROW, COLUMN, [[0, 1]], [[1], [0]]):
            for told in itertools.product(range(-1, 7), repeat=2):
                self.asked(*told, tray, copy.deepcopy(tray), False)

    def test_of_two_rows_and_columns_or_more(self):
        for rows, columns in ((2, 2), (2, 3), (3, 2), (2, 6), (6, 2), (6, 6)):
            one = numbered(rows, columns)
            for other in (one, exchanged(one, 1, 2), shuffled(rows, columns, 3)):
                for told in itertools.product(range(-1, 5), repeat=2):
                    self.asked(*told, one, other, False)


class AllThree(unittest.TestCase):
    def test_fields_as_they_stand_then(self):
        there = plainly_moved(SQUARE, "ul")
        led = Led("ul")
        self.assertIs(led.shows(SQUARE, there), True)
        for slides, wanted in (("lu", False), ("", False), ("x", False),
                               ("uuuu", False), ("ulrl", True), ("ul", True)):
            led.slides = slides
            self.assertIs(led.shows(SQUARE, there), wanted)
            self.assertEqual(led.slides, slides)

        one, other = [[1, 2], [3, 0]], [[2, 1], [0, 3]]
        odd = Odd(2, 1)
        self.assertIs(odd.shows(one, other), True)
        odd.crossed = 4
        self.assertIs(odd.shows(one, other), False)
        odd.crossed, odd.steps = 2, 3
        self.assertIs(odd.shows(one, other), False)
        odd.steps = 1
        self.assertIs(odd.shows(one, other), True)

        passed = Passed(1, 2)
        one, other = [[1, 2, 3, 0]], [[2, 1, 3, 0]]
        self.assertIs(passed.shows(one, other), True)
        passed.one = 3
        self.assertIs(passed.shows(one, other), False)
        passed.one, passed.other = 2, 1
        self.assertIs(passed.shows(one, other), True)
        passed.other = 0
        self.assertIs(passed.shows(one, other), False)

    def test_trays_as_they_stand_then(self):
        one, other = [[0, 1], [2, 3]], [[1, 0], [2, 3]]
        led = Led("r")
        odd = Odd(2, 1)
        self.assertIs(led.shows(one, other), True)
        self.assertIs(odd.shows(one, other), False)
        other[1].reverse()
        self.assertIs(led.shows(one, other), False)
        self.assertIs(odd.shows(one, other), True)

    def test_what_is_handed_in_stays_as_it_was(self):
        for rows, columns in sides():
            one = numbered(rows, columns)
            other = shuffled(rows, columns, 5)
            before = copy.deepcopy((one, other))
            lists = [*one, *other]
            for answer in (Led("rd"), Led("lx"), Led(""), Odd(1, 2),
                           Passed(1, 2), Passed(0, 9)):
                fields = dict(vars(answer))
                told = answer.shows(one, other)
                self.assertIs(type(told), bool)
                self.assertEqual((one, other), before)
                self.assertEqual(vars(answer), fields)
                for row, same_row in zip([*one, *other], lists):
                    self.assertIs(row, same_row)

    def test_never_two(self):
        for rows, columns in ((2, 2), (1, 4), (4, 1), (1, 1), (1, 2), (2, 1)):
            trays = list(all_trays(rows, columns))
            for other in trays:
                one = trays[-1]
                led = any(Led(slides).shows(one, other) for slides in texts(6))
                odd = any(
                    Odd(*told).shows(one, other)
                    for told in itertools.product(range(7), range(4)))
                passed = any(
                    Passed(*told).shows(one, other)
                    for told in itertools.product(range(4), repeat=2))
                # Six slides lead to whatever can be reached on these.
                self.assertEqual([led, odd, passed].count(True), 1)
                self.assertFalse(odd and not is_broad(one))
                self.assertFalse(passed and is_broad(one))


if __name__ == "__main__":
    unittest.main()
