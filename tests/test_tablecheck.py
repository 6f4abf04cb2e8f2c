"""[23]: the checker of tables."""

import copy
import random
import unittest

from likepieces.errors import LikeError, NoTable
from likepieces.tablecheck import lets_table
from likepieces.tables import marks, table
from tests.samples import NO_TREES, ONE, X, Y, chain, nested, refusal, some_programs
from tests.tabling import is_right

TAKE = ("take",)
SAY = ("say", ("free", 0))

# By 2 its table has the rows: 0 the do, 1 both sums, 2 both says, 3 the set.
PROGRAM = ((), ("do", ("op", "+", ("say", X), ONE), ("op", "+", ("say", Y), ONE), ("set", "x", TAKE)))
ROWS = table(PROGRAM, 2)
MARKS = (("one",), ("parts", 0, 1), ("grows", 0, 1), ("one",))


def told(program, least):
    return (table(program, least), marks(program, least))


def with_row(at, row):
    return ROWS[:at] + (row,) + ROWS[at + 1:]


def with_mark(at, mark):
    return MARKS[:at] + (mark,) + MARKS[at + 1:]


def each_mark(rows, at):
    """Things that may be the mark of the row, most of them wrong: numbers beyond on both sides too."""
    many = len(rows[at][1])
    numbers = (-many, -1) + tuple(range(many + 1))
    told = [("one",), ("body",), ("grows",), ("one", 0), ("parts", 0), ("around", 0), ("body", 0, 0)]
    told += [("body", i) for i in numbers] + [("grows", i) for i in numbers]
    told += [(word, i, j) for word in ("parts", "around") for i in numbers for j in numbers]
    told += [("grows", c, r) for c in range(-1, 7) for r in range(-1, len(rows) + 1)]
    return told


def right_marks(program, rows, at):
    """Those of them that are right, as the words have it."""
    many = len(rows[at][1])
    told = []
    for mark in each_mark(rows, at):
        fits = len(mark) == {"one": 1, "body": 2}.get(mark[0], 3)
        numbers, bound = (mark[2:], len(rows)) if mark[0] == "grows" else (mark[1:], many)
        if fits and all(0 <= number < bound for number in numbers) and is_right(program, rows, at, mark):
            told.append(mark)
    return told


def shuffled(rng, rows):
    """The rows of a table in another order, the places in each too."""
    rows = [(shape, tuple(rng.sample(places, len(places)))) for shape, places in rows]
    return tuple(rng.sample(rows, len(rows)))


class LetBy(unittest.TestCase):
    def test_what_is_told(self):
        self.assertEqual(marks(PROGRAM, 2), MARKS)
        self.assertIs(lets_table(PROGRAM, 2, (ROWS, MARKS)), True)
        for program in some_programs(21, 200):
            for least in (1, 2, 5, 1000):
                self.assertIs(lets_table(program, least, told(program, least)), True)

    def test_no_row(self):
        self.assertIs(lets_table(((), X), 2, ((), ())), True)

    def test_in_another_order(self):
        rng = random.Random(22)
        for program in some_programs(23, 100):
            rows = shuffled(rng, table(program, 1))
            right = [right_marks(program, rows, at) for at in range(len(rows))]
            for again in range(3):
                some = tuple(rng.choice(row) for row in right)
                self.assertIs(lets_table(program, 1, (rows, some)), True)

    def test_marks_in_either_order_of_two_places(self):
        self.assertIs(lets_table(PROGRAM, 2, (ROWS, with_mark(1, ("parts", 1, 0)))), True)
        program = ((), ("do", ("op", "+", ("say", X), ONE), ("op", "+", ("say", Y), TAKE)))
        rows, signs = told(program, 2)
        self.assertEqual(signs[2], ("around", 0, 1))
        self.assertIs(lets_table(program, 2, (rows, signs[:2] + (("around", 1, 0),) + signs[3:])), True)

    def test_however_deep(self):
        program = ((("f", (), chain(300)),), chain(300))
        self.assertIs(lets_table(program, 200, told(program, 200)), True)

    def test_a_thing_deeper_than_the_shape(self):
        program = ((), chain(5))
        for at in range(1, 40):
            thing = (((nested(("free", 0), at), ((0, (0,) * 5),)),), (("one",),))
            error = refusal(self, NoTable, lets_table, program, 1, thing)
            self.assertEqual((error.word, error.number), ("place", 0))


class Refused(unittest.TestCase):
    def refused(self, word, number, thing, program=PROGRAM, least=2):
        kept = copy.deepcopy(thing)
        error = refusal(self, NoTable, lets_table, program, least, thing)
        self.assertEqual((error.word, error.number), (word, number), thing)
        self.assertIsInstance(error, LikeError)
        self.assertEqual(repr(thing), repr(kept))

    def test_shape(self):
        for thing in NO_TREES + (ROWS, MARKS, (ROWS,), (ROWS, MARKS, ()), [ROWS, MARKS], (list(ROWS), MARKS), (ROWS, list(MARKS))):
            self.refused("shape", 0, thing)
        for thing in NO_TREES:
            if not isinstance(thing, tuple):
                self.refused("shape", 0, (thing, MARKS))
                self.refused("shape", 0, (ROWS, thing))
                self.refused("shape", 0, (with_row(3, (SAY, thing)), MARKS))
            if not (isinstance(thing, tuple) and len(thing) == 2 and isinstance(thing[1], tuple)):
                for at in range(4):
                    self.refused("shape", 0, (with_row(at, thing), MARKS))
        self.refused("shape", 0, (with_row(3, list(ROWS[3])), MARKS))
        self.refused("shape", 0, (with_row(3, ROWS[3] + ((),)), MARKS))
        self.refused("shape", 0, (with_row(3, ROWS[3][:1]), MARKS))
        self.refused("shape", 0, (with_row(3, (ROWS[3][0], list(ROWS[3][1]))), MARKS))
        for at in range(1, 39):
            self.refused("shape", 0, nested((ROWS, MARKS), at))

    def test_any_thing_as_a_place(self):
        for thing in NO_TREES + ((0, (0, 7)), (1, ()), (-1, ()), (False, (0,)), (0, (False,)), [0, (0,)], (0, [0]), (0, (0,), 0)):
            self.refused("place", 1, (with_row(1, (ROWS[1][0], ROWS[1][1] + (thing,))), MARKS))
            self.refused("place", 1, (with_row(1, (ROWS[1][0], (thing,) + ROWS[1][1])), MARKS))
            self.refused("place", 3, (with_row(3, (ROWS[3][0], (thing,))), MARKS))
        self.refused("place", 1, (with_row(1, (ROWS[1][0], ((0, (0,)), (0, (True,))))), MARKS))

    def test_a_piece_with_fewer_nodes(self):
        least = (("num", 1), ((0, (0, 1)), (0, (1, 1))))
        self.refused("place", 4, (ROWS + (least,), MARKS + (("grows", 1, 1),)))
        self.refused("place", 0, ((least,) + ROWS, MARKS))
        self.refused("place", 2, told(PROGRAM, 2), least=3)
        self.refused("place", 0, told(PROGRAM, 2), least=1000)

    def test_a_piece_of_another_shape(self):
        sums, says = ROWS[1], ROWS[2]
        self.refused("place", 1, (with_row(1, (sums[0], sums[1] + says[1][:1])), MARKS))
        self.refused("place", 2, (with_row(2, (sums[0], says[1])), MARKS))
        self.refused("place", 2, (with_row(2, (("say", ("free", 1)), says[1])), MARKS))
        self.refused("place", 2, (with_row(2, (("say", X), says[1])), MARKS))
        self.refused("place", 2, (with_row(2, (says[0] + (), says[1] + ((0, (2,)),))), MARKS))
        for thing in NO_TREES:
            self.refused("place", 2, (with_row(2, (thing, says[1])), MARKS))
            if thing != ("free", 0):
                self.refused("place", 2, (with_row(2, (("say", thing), says[1])), MARKS))
        for shape in (["say", ("free", 0)], ("say", ["free", 0]), ("say", ("free", False)), ("say", ("free",)), ("say", ("free", 0, 0)),
                      ("say", ("free", 0), ()), ("say", "free", 0), ("say", ("free", "0")), ("say",), ("free", 0)):
            self.refused("place", 2, (with_row(2, (shape, says[1])), MARKS))

    def test_a_truth_in_a_shape(self):
        program = ((), ("op", "+", ONE, ("again", 0, ONE)))
        rows, signs = told(program, 1)
        self.assertIs(lets_table(program, 1, (rows, signs)), True)
        self.assertEqual(rows[1][0], ("num", 1))
        self.refused("place", 1, (rows[:1] + ((("num", True), rows[1][1]),) + rows[2:], signs), program, 1)
        self.refused("place", 2, (rows[:2] + ((("again", False, ("num", 1)), rows[2][1]),), signs), program, 1)
        self.refused("place", 0, ((((("op", "+", ("num", True)) + rows[0][0][3:]), rows[0][1]),) + rows[1:], signs), program, 1)

    def test_a_place_twice(self):
        self.refused("place", 1, (with_row(1, (ROWS[1][0], ROWS[1][1] + ROWS[1][1][:1])), MARKS))
        self.refused("place", 3, (with_row(3, (ROWS[3][0], ROWS[3][1] * 2)), MARKS))

    def test_a_shape_twice(self):
        self.refused("row", 4, (ROWS + ROWS[:1], MARKS))
        self.refused("row", 1, (ROWS[:1] + ROWS, MARKS))
        shape, places = ROWS[1]
        self.refused("row", 2, (ROWS[:1] + ((shape, places[:1]), (shape, places[1:])) + ROWS[2:], MARKS + (("one",),)))

    def test_a_row_without_places(self):
        for thing in NO_TREES + (SAY, ROWS[0][0], ["free", 0]):
            self.refused("row", 4, (ROWS + ((thing, ()),), MARKS + (("one",),)))
            self.refused("row", 0, (((thing, ()),) + ROWS, MARKS))

    def test_lacks(self):
        self.refused("lacks", 0, ((), ()))
        self.refused("lacks", 0, (ROWS[1:], MARKS[1:]))
        self.refused("lacks", 1, ((ROWS[0],) + ROWS[2:], MARKS))
        self.refused("lacks", 2, (ROWS[:2] + ROWS[3:], ()))
        self.refused("lacks", 5, (ROWS[:3], MARKS[:3]))
        for at in range(2):
            shape, places = ROWS[1]
            self.refused("lacks", (3, 1)[at], (with_row(1, (shape, places[at:at + 1])), MARKS))
        self.refused("lacks", 3, (ROWS, MARKS), least=1)
        for program in some_programs(24, 60):
            rows, signs = told(program, 1)
            every = sorted(place for shape, places in rows for place in places)
            for at, (shape, places) in enumerate(rows):
                self.refused("lacks", every.index(places[0]), (rows[:at] + rows[at + 1:], signs), program, 1)
                if len(places) > 1:
                    fewer = rows[:at] + ((shape, places[:-1]),) + rows[at + 1:]
                    self.refused("lacks", every.index(places[-1]), (fewer, signs), program, 1)

    def test_marks(self):
        self.refused("marks", 0, (ROWS, ()))
        self.refused("marks", 0, (ROWS, MARKS[:-1]))
        self.refused("marks", 0, (ROWS, MARKS + (("one",),)))
        self.refused("marks", 0, ((), (("one",),)), ((), X))

    def test_any_thing_as_a_mark(self):
        for at in range(4):
            for thing in NO_TREES + ("one", ["one"], (("one",),), ("One",), ("one", ()), ("two",), ("great",), ("place", 0), ("parts", (0, 1))):
                self.refused("mark", at, (ROWS, with_mark(at, thing)))
            for many in range(1, 30):
                self.refused("mark", at, (ROWS, with_mark(at, nested(("one",), many))))

    def test_one_of_a_group_and_others_of_one_place(self):
        for at in (1, 2):
            self.refused("mark", at, (ROWS, with_mark(at, ("one",))))
        for at in (0, 3):
            for mark in (("body", 0), ("grows", 2, 0), ("grows", 0, 0), ("parts", 0, 0), ("around", 0, 0), ("parts", 0, 1), ("around", 0, 1)):
                self.refused("mark", at, (ROWS, with_mark(at, mark)))

    def test_truths_for_numbers(self):
        self.refused("mark", 1, (ROWS, with_mark(1, ("parts", False, True))))
        self.refused("mark", 1, (ROWS, with_mark(1, ("parts", 0, True))))
        self.refused("mark", 1, (ROWS, with_mark(1, ("parts", False, 1))))
        self.refused("mark", 2, (ROWS, with_mark(2, ("grows", False, 1))))
        self.refused("mark", 2, (ROWS, with_mark(2, ("grows", 0, True))))
        for thing in (None, "0", (), [], (0,), [0], "", -1, 2, 10 ** 59):
            self.refused("mark", 1, (ROWS, with_mark(1, ("parts", 0, thing))))
            self.refused("mark", 1, (ROWS, with_mark(1, ("parts", thing, 1))))
            self.refused("mark", 2, (ROWS, with_mark(2, ("grows", 0, thing))))
            self.refused("mark", 2, (ROWS, with_mark(2, ("grows", thing, 1))))

    def test_a_truth_for_a_place_that_is_a_body(self):
        program = ((("f", (), ("say", X)),), ("say", Y))
        rows, signs = told(program, 2)
        self.assertEqual(signs, (("body", 0),))
        self.assertIs(lets_table(program, 2, (rows, (("body", 1),))), True)
        for thing in (True, False, 2, -1, None, "0", (0,)):
            self.refused("mark", 0, (rows, (("body", thing),)), program)
        for mark in (("parts", 0, 1), ("around", 0, 1), ("grows", 0, 0), ("body",), ("body", 0, 1)):
            self.refused("mark", 0, (rows, (mark,)), program)

    def test_a_body_beside_a_part(self):
        program = ((("f", (), ("say", X)),), ("do", ONE, ("say", Y), ("do", TAKE, ("say", Y))))
        rows, signs = told(program, 2)
        self.assertEqual(rows[0][1], ((0, ()), (1, (1,)), (1, (2, 1))))
        for mark in (("body", 0), ("around", 1, 2), ("around", 2, 1)):
            self.assertIs(lets_table(program, 2, (rows, (mark,) + signs[1:])), True)
        for mark in (("body", 1), ("parts", 0, 1), ("parts", 1, 0), ("around", 0, 1), ("around", 2, 0), ("around", 1, 1), ("parts", 1, 2), ("grows", 1, 1)):
            self.refused("mark", 0, (rows, (mark,) + signs[1:]), program)

    def test_each_mark(self):
        """Of all marks that could be, those are let by that are right as the words have it."""
        rng = random.Random(25)
        seen = {}
        for program in some_programs(26, 40):
            rows = shuffled(rng, table(program, 1))
            if len(rows) > 8:
                continue
            right = [right_marks(program, rows, at) for at in range(len(rows))]
            signs = tuple(row[0] for row in right)
            for at in range(len(rows)):
                for mark in each_mark(rows, at):
                    thing = (rows, signs[:at] + (mark,) + signs[at + 1:])
                    if mark in right[at]:
                        seen[mark[0]] = True
                        self.assertIs(lets_table(program, 1, thing), True)
                    else:
                        error = refusal(self, NoTable, lets_table, program, 1, thing)
                        self.assertEqual((error.word, error.number), ("mark", at))
        self.assertEqual(sorted(seen), ["around", "body", "grows", "one", "parts"])

    def test_the_one_told_first(self):
        bad, empty = (SAY, ((9, ()),)), (SAY, ())
        self.refused("shape", 0, ((bad, empty, None), ()))
        self.refused("place", 0, ((bad, empty), ()))
        self.refused("row", 0, ((empty, bad), ()))
        self.refused("place", 1, ((ROWS[0], bad, ROWS[0]), ()))
        self.refused("row", 1, ((ROWS[0], ROWS[0], bad), ()))
        self.refused("place", 1, ((ROWS[0], (ROWS[0][0], ((0, ()), (0, ())))), ()))
        self.refused("place", 1, ((ROWS[0], (ROWS[0][0], ((0, ()), None))), ()))
        self.refused("place", 0, (((("do",), (None,)),) + ROWS[2:], ()))
        self.refused("row", 4, (ROWS + (empty,), (None,)))
        self.refused("lacks", 2, (ROWS[:2] + ROWS[3:], (None,) * 4))
        self.refused("lacks", 2, (ROWS[:2] + ROWS[3:], (None,) * 3))
        self.refused("marks", 0, (ROWS, (None,) * 3))
        self.refused("mark", 1, (ROWS, (("one",), None, None, None)))
        self.refused("mark", 2, (ROWS, MARKS[:2] + (("grows", 0, 0), None)))


if __name__ == "__main__":
    unittest.main()
