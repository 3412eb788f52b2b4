"""Tests of slidetray/leading.py."""

import copy
import inspect
import itertools
import unittest

from slidetray import leading
from slidetray.answers import Answer, Led, Odd, Passed
from slidetray.errors import BadTray, Unlike
from slidetray.leading import told
from slidetray.trays import moved, undone, ways
from tests.samples import (
    COLUMN, LETTERS, ONE, ROW, SQUARE, all_trays, exchanged, is_broad,
    numbered, plainly_apart, plainly_crossed, plainly_moved, plainly_passed,
    shuffled, sides, some_slides, wrong_trays,
)


def pieces_in_turn(tray):
    return [number for row in tray for number in row if number]


def plainly_barred(one, other):
    """Whether no slides lead from the one to the other."""
    if is_broad(one):
        return (plainly_crossed(one, other) + plainly_apart(one, other)) % 2 == 1
    return pieces_in_turn(one) != pieces_in_turn(other)


def key(tray):
    return tuple(number for row in tray for number in row)


def all_led_to(start):
    """The keys of all trays that slides lead to, found one by one."""
    found = {key(start)}
    at_hand = [start]
    while at_hand:
        tray = at_hand.pop()
        for letter in LETTERS:
            after = plainly_moved(tray, letter)
            if after is not None and key(after) not in found:
                found.add(key(after))
                at_hand.append(after)
    return found


class Answers(unittest.TestCase):
    def due(self, one, other, kind):
        """The answer, which is of this class alone and as [3] tells."""
        answer = told(one, other)
        self.assertIs(type(answer), kind, (one, other))
        self.assertIsInstance(answer, Answer)
        self.assertIs(answer.shows(one, other), True)
        check = {Led: self.leads, Odd: self.odd, Passed: self.passed}[kind]
        check(answer, one, other)
        return answer

    def leads(self, answer, one, other):
        """The slides lead there, slide by slide."""
        self.assertIs(type(answer.slides), str)
        tray = one
        for letter in answer.slides:
            self.assertIn(letter, ways(tray))
            after = moved(tray, letter)
            self.assertEqual(after, plainly_moved(tray, letter))
            tray = after
        self.assertEqual(tray, other)
        self.assertEqual(moved(one, answer.slides), other)

    def odd(self, answer, one, other):
        self.assertTrue(is_broad(one))
        self.assertIs(type(answer.crossed), int)
        self.assertIs(type(answer.steps), int)
        self.assertEqual(answer.crossed, plainly_crossed(one, other))
        self.assertEqual(answer.steps, plainly_apart(one, other))
        self.assertEqual((answer.crossed + answer.steps) % 2, 1)

    def passed(self, answer, one, other):
        self.assertFalse(is_broad(one))
        self.assertIs(type(answer.one), int)
        self.assertIs(type(answer.other), int)
        self.assertTrue(plainly_passed(one, other, answer.one, answer.other))

    def due_kind(self, one, other):
        """The class that is due, found plainly."""
        if not plainly_barred(one, other):
            return Led
        return Odd if is_broad(one) else Passed


class Told(Answers):
    def test_ordinary_trays(self):
        solved = [[1, 2, 3], [4, 5, 6], [7, 8, 0]]
        self.due([[8, 6, 7], [2, 5, 4], [3, 0, 1]], solved, Led)
        self.due([[1, 2, 3], [4, 5, 6], [8, 7, 0]], solved, Odd)
        self.due(SQUARE, [[0, 1, 3], [4, 2, 5], [6, 7, 8]], Led)
        self.due(SQUARE, [[0, 1, 3], [2, 4, 5], [6, 7, 8]], Odd)
        self.due([[1, 0, 2, 3]], [[0, 1, 2, 3]], Led)
        self.due([[1, 0, 2, 3]], [[0, 1, 3, 2]], Passed)
        self.due([[1], [2], [0]], [[0], [1], [2]], Led)
        self.due([[1], [2], [0]], [[2], [0], [1]], Passed)

    def test_fourteen_and_fifteen_exchanged(self):
        solved = [[1, 2, 3, 4], [5, 6, 7, 8], [9, 10, 11, 12], [13, 14, 15, 0]]
        answer = self.due(exchanged(solved, 14, 15), solved, Odd)
        self.assertEqual((answer.crossed, answer.steps), (1, 0))
        answer = self.due(exchanged(solved, 0, 1), solved, Odd)
        self.assertEqual((answer.crossed, answer.steps), (29, 6))

    def test_one_place(self):
        self.assertEqual(self.due(ONE, ONE, Led).slides, "")
        self.assertEqual(self.due(ONE, [[0]], Led).slides, "")

    def test_two_places(self):
        self.due([[0, 1]], [[1, 0]], Led)
        self.due([[1, 0]], [[0, 1]], Led)
        self.due([[0], [1]], [[1], [0]], Led)
        self.due([[1], [0]], [[0], [1]], Led)

    def test_the_same_tray_twice(self):
        for rows, columns in sides():
            for empty in range(rows * columns):
                tray = numbered(rows, columns, empty)
                self.due(tray, tray, Led)
                self.due(tray, copy.deepcopy(tray), Led)

    def test_led_on_and_then_two_pieces_exchanged(self):
        for rows, columns in sides():
            one = shuffled(rows, columns, "led on")
            for many in (1, 2, 5, 40, 301):
                slides = some_slides(one, many, many)
                other = plainly_moved(one, slides)
                self.due(one, other, Led)
                self.due(other, one, Led)
                last = rows * columns - 1
                for first, second in ((1, 2), (1, last), (last - 1, last)):
                    if 0 < first < second <= last:
                        barred = exchanged(other, first, second)
                        kind = Odd if is_broad(one) else Passed
                        self.due(one, barred, kind)
                        self.due(barred, one, kind)
                        self.due(barred, exchanged(one, first, second), Led)

    def test_trays_of_every_sides(self):
        for rows, columns in sides():
            for seed in range(8):
                one = shuffled(rows, columns, seed)
                other = shuffled(rows, columns, "other%s" % seed)
                self.due(one, other, self.due_kind(one, other))

    def test_every_place_of_the_empty_place(self):
        for rows, columns in ((2, 2), (2, 3), (3, 2), (3, 3), (2, 5), (4, 3)):
            many = rows * columns
            for at, to in itertools.product(range(many), repeat=2):
                one = numbered(rows, columns, at)
                other = numbered(rows, columns, to)
                self.due(one, other, self.due_kind(one, other))

    def test_rows_and_columns_turned_about(self):
        for rows, columns in sides():
            one = numbered(rows, columns)
            for other in (
                [row[::-1] for row in one], one[::-1],
                [row[::-1] for row in one][::-1],
            ):
                self.due(one, other, self.due_kind(one, other))

    def test_arguments_by_name(self):
        self.assertEqual(told(other=[[1, 0]], one=[[0, 1]]).slides, "r")

    def test_interface(self):
        self.assertEqual(told.__module__, "slidetray.leading")
        self.assertEqual(list(inspect.signature(leading.told).parameters),
                         ["one", "other"])


class Narrow(Answers):
    def test_from_one_tray_to_all_of_its_sides(self):
        for many in range(1, 7):
            for one in (numbered(1, many), shuffled(1, many, 4)):
                stood = [[number] for number in one[0]]
                led = 0
                for other in all_trays(1, many):
                    other_stood = [[number] for number in other[0]]
                    kind = self.due_kind(one, other)
                    self.due(one, other, kind)
                    self.due(stood, other_stood, kind)
                    led += kind is Led
                # The empty place has so many places, the pieces no choice.
                self.assertEqual(led, many)

    def test_from_all_trays_to_all_of_their_sides(self):
        for many in range(1, 5):
            for rows, columns in ((1, many), (many, 1)):
                trays = list(all_trays(rows, columns))
                for one, other in itertools.product(trays, repeat=2):
                    self.due(one, other, self.due_kind(one, other))

    def test_no_piece_passes_another_one(self):
        for tray in (numbered(1, 6, 3), numbered(6, 1, 3), ROW, COLUMN):
            for seed in range(20):
                slides = some_slides(tray, 25, seed)
                other = plainly_moved(tray, slides)
                self.assertEqual(pieces_in_turn(tray), pieces_in_turn(other))
                self.due(tray, other, Led)
                for first, second in itertools.combinations(range(1, 6), 2):
                    barred = exchanged(other, first, second)
                    self.due(tray, barred, Passed)

    def test_narrow_trays_with_an_odd_count_are_led_or_passed(self):
        self.due([[1, 2, 0]], [[2, 1, 0]], Passed)
        # Even together, and yet no piece passes another one.
        self.due([[1, 2, 3, 0]], [[2, 3, 1, 0]], Passed)
        self.due([[1], [2], [3], [0]], [[3], [1], [2], [0]], Passed)


class Half(Answers):
    def all_from(self, one, trays):
        """How many of the trays are led to, each with a check of its own."""
        return sum(
            type(self.due(one, other, self.due_kind(one, other))) is Led
            for other in trays)

    def test_from_each_of_two_rows_and_two_columns(self):
        trays = list(all_trays(2, 2))
        for one in trays:
            led_to = all_led_to(one)
            self.assertEqual(len(led_to), 12)
            self.assertEqual(self.all_from(one, trays), 12)
            for other in trays:
                led = isinstance(told(one, other), Led)
                self.assertEqual(led, key(other) in led_to)

    def test_two_rows_and_three_columns(self):
        for rows, columns in ((2, 3), (3, 2)):
            trays = list(all_trays(rows, columns))
            for one in trays[::144]:
                self.assertEqual(self.all_from(one, trays), 360)

    def test_from_each_of_two_rows_and_three_columns(self):
        trays = list(all_trays(2, 3))
        led_to = all_led_to(trays[0])
        self.assertEqual(len(led_to), 360)
        # Both halves are whole: slides lead on within them, and never across.
        left = all_led_to(next(tray for tray in trays if key(tray) not in led_to))
        self.assertEqual(len(left), 360)
        self.assertFalse(left & led_to)
        for at, one in enumerate(trays):
            half = led_to if key(one) in led_to else left
            for other in trays[at % 7::7]:
                led = isinstance(told(one, other), Led)
                self.assertEqual(led, key(other) in half)


class Asked(Answers):
    def test_of_the_trays_exchanged(self):
        for rows, columns in sides():
            for seed in range(4):
                one = shuffled(rows, columns, seed)
                for other in (
                    plainly_moved(one, some_slides(one, 30, seed)),
                    shuffled(rows, columns, "other%s" % seed),
                ):
                    answer = told(one, other)
                    wanted = True
                    if isinstance(answer, Led):
                        wanted = plainly_moved(other, answer.slides) == one
                        back = Led(undone(answer.slides))
                        self.assertIs(back.shows(other, one), True)
                    self.assertIs(answer.shows(other, one), wanted)

    def test_of_other_trays(self):
        for rows, columns in ((1, 1), (1, 2), (1, 4), (4, 1), (2, 2), (3, 2),
                              (3, 3), (6, 6)):
            trays = [shuffled(rows, columns, seed) for seed in range(4)]
            trays += [exchanged(tray, 0, 1) for tray in trays
                      if rows * columns > 1]
            answers = [told(one, other)
                       for one, other in itertools.product(trays, repeat=2)]
            for answer in answers:
                for one, other in itertools.product(trays, repeat=2):
                    self.assertIs(answer.shows(one, other),
                                  self.plainly_shows(answer, one, other))

    def plainly_shows(self, answer, one, other):
        if isinstance(answer, Led):
            return plainly_moved(one, answer.slides) == other
        if isinstance(answer, Passed):
            return plainly_passed(one, other, answer.one, answer.other)
        return is_broad(one) and plainly_barred(one, other) and (
            (plainly_crossed(one, other), plainly_apart(one, other))
            == (answer.crossed, answer.steps))

    def test_fields_changed_after_it_was_told(self):
        one = numbered(3, 3)
        other = plainly_moved(one, "drdruull")
        answer = told(one, other)
        slides = answer.slides
        answer.slides = slides[:-1]
        self.assertIs(answer.shows(one, other), False)
        answer.slides = slides + "x"
        self.assertIs(answer.shows(one, other), False)
        answer.slides = slides
        self.assertIs(answer.shows(one, other), True)

        other = exchanged(other, 1, 2)
        answer = told(one, other)
        for field in ("crossed", "steps"):
            number = getattr(answer, field)
            for changed in (number - 1, number + 1, number + 2, -number - 1):
                setattr(answer, field, changed)
                self.assertIs(answer.shows(one, other), False)
            setattr(answer, field, number)
            self.assertIs(answer.shows(one, other), True)

        one, other = [[1, 2, 3, 0]], [[1, 0, 3, 2]]
        answer = told(one, other)
        self.assertEqual({answer.one, answer.other}, {2, 3})
        for changed in (0, 1, 4, -1, answer.other):
            first = answer.one
            answer.one = changed
            self.assertIs(answer.shows(one, other), False)
            answer.one = first
            self.assertIs(answer.shows(one, other), True)


class Refused(unittest.TestCase):
    def test_what_is_no_tray(self):
        for why, wrong in wrong_trays():
            with self.subTest(why=why):
                with self.assertRaises(BadTray):
                    told(wrong, [[0, 1], [2, 3]])
                with self.assertRaises(BadTray):
                    told([[0, 1], [2, 3]], wrong)
                with self.assertRaises(BadTray):
                    told(wrong, wrong)
                with self.assertRaises(BadTray):
                    told(wrong, ONE)
                with self.assertRaises(BadTray):
                    told(ONE, wrong)

    def test_no_tray_of_the_same_sides(self):
        for wrong in ([[1, 2], [3, 4]], [[0, 1], [1, 2]], [[0, True], [2, 3]],
                      [[False, 1], [2, 3]], [[0, 1], [2, 3.0]],
                      [[0, 1], [2, "3"]], [(0, 1), (2, 3)], [[0, 1], [2, 4]],
                      ([0, 1], [2, 3])):
            with self.assertRaises(BadTray):
                told(wrong, [[0, 1], [2, 3]])
            with self.assertRaises(BadTray):
                told([[0, 1], [2, 3]], wrong)

    def test_the_one_goes_first(self):
        class Watched(list):
            """A list that tells whether anyone asked how long it is."""
            asked = False

            def __len__(self):
                self.asked = True
                return list.__len__(self)

        for wrong in (None, [], [[1, 2]], [[0, True]], [[0, 1], [2]]):
            other = Watched()
            with self.assertRaises(BadTray):
                told(wrong, other)
            self.assertFalse(other.asked)

    def test_other_sides(self):
        trays = [numbered(rows, columns) for rows, columns in sides()]
        for one, other in itertools.permutations(trays, 2):
            with self.assertRaises(Unlike):
                told(one, other)

    def test_as_many_places_and_other_sides(self):
        for one, other in (
            ([[0, 1]], [[0], [1]]), ([[0, 1, 2, 3]], [[0, 1], [2, 3]]),
            (numbered(2, 3), numbered(3, 2)), (numbered(6, 1), numbered(1, 6)),
            (numbered(6, 2), numbered(3, 4)), (numbered(4, 3), numbered(2, 6)),
        ):
            for asked in ((one, other), (other, one)):
                with self.assertRaises(Unlike):
                    told(*asked)

    def test_no_tray_goes_before_other_sides(self):
        for why, wrong in wrong_trays():
            for tray in (ONE, ROW, COLUMN, numbered(6, 6), [[0, 1]]):
                with self.subTest(why=why, tray=tray):
                    with self.assertRaises(BadTray):
                        told(wrong, tray)
                    with self.assertRaises(BadTray):
                        told(tray, wrong)


class HandedInAndTold(unittest.TestCase):
    def test_what_is_handed_in_stays_as_it_was(self):
        for rows, columns in sides():
            for seed in range(4):
                one = shuffled(rows, columns, seed)
                other = shuffled(rows, columns, seed + 1)
                before = copy.deepcopy((one, other))
                lists = [*one, *other]
                told(one, other)
                told(one, one)
                self.assertEqual((one, other), before)
                for row, same_row in zip([*one, *other], lists):
                    self.assertIs(row, same_row)

    def test_what_is_refused_stays_as_it_was(self):
        for one, other in (
            ([[0, 1]], [[0], [1]]), ([[0, 2]], [[0, 1]]), ([], [[0]]),
            ([[0, 1]], [[True, 0]]), ([[3, 1], [2, 3]], [[0, 1], [2]]),
        ):
            before = repr((one, other))
            with self.assertRaises((BadTray, Unlike)):
                told(one, other)
            self.assertEqual(repr((one, other)), before)

    def test_nothing_handed_in_is_kept(self):
        for one, other, kind in (
            (numbered(3, 3), plainly_moved(numbered(3, 3), "rrdd"), Led),
            (numbered(3, 3), exchanged(numbered(3, 3), 1, 2), Odd),
            (numbered(1, 4), exchanged(numbered(1, 4), 1, 2), Passed),
        ):
            asked = copy.deepcopy((one, other))
            answer = told(one, other)
            self.assertIs(type(answer), kind)
            fields = dict(vars(answer))
            for row in one + other:
                row.reverse()
                row.pop()
            one.clear()
            self.assertEqual(vars(answer), fields)
            self.assertIs(answer.shows(*asked), True)

    def test_fields_are_texts_and_numbers_alone(self):
        names = {Led: ["slides"], Odd: ["crossed", "steps"],
                 Passed: ["one", "other"]}
        for rows, columns in sides():
            for seed in range(6):
                answer = told(shuffled(rows, columns, seed),
                              shuffled(rows, columns, seed + 1))
                fields = vars(answer)
                self.assertEqual(sorted(fields), sorted(names[type(answer)]))
                wanted = str if isinstance(answer, Led) else int
                for worth in fields.values():
                    self.assertIs(type(worth), wanted)

    def test_what_is_told_is_new(self):
        for one, other in (
            (ONE, ONE), (SQUARE, SQUARE), (SQUARE, exchanged(SQUARE, 1, 2)),
            (ROW, ROW), (ROW, exchanged(ROW, 1, 2)),
        ):
            answer = told(one, other)
            again = told(one, other)
            self.assertIsNot(answer, again)
            fields = dict(vars(again))
            for name in fields:
                setattr(answer, name, None)
            self.assertEqual(vars(again), fields)
            self.assertEqual(vars(told(one, other)), fields)


if __name__ == "__main__":
    unittest.main()
