"""[21], [22]: the table of a program, great groups, marks."""

import unittest

from likepieces.likes import alike
from likepieces.pieces import is_place, piece_at, places_of
from likepieces.programs import is_program
from likepieces.tables import great, marks, table
from tests.samples import ONE, X, Y, chain, each_path, some_programs
from tests.tabling import grows_by, is_right, plain_table

Z = ("name", "z")
TAKE = ("take",)


def op(one, other):
    return ("op", "+", one, other)


class Tables(unittest.TestCase):
    def test_one_node(self):
        program = ((), X)
        self.assertEqual(table(program, 1), ((("free", 0), ((0, ()),)),))
        self.assertEqual(table(program, 2), ())
        self.assertEqual(marks(program, 1), (("one",),))
        self.assertEqual(marks(program, 2), ())
        self.assertEqual(great(program, 1), ())
        self.assertEqual(great(program, 2), ())

    def test_rows_by_their_first_places(self):
        program = ((), op(("say", X), ("do", ONE, ("say", Y))))
        self.assertEqual(table(program, 1), (
            (("op", "+", ("say", ("free", 0)), ("do", ("num", 1), ("say", ("free", 1)))), ((0, ()),)),
            (("say", ("free", 0)), ((0, (0,)), (0, (1, 1)))),
            (("free", 0), ((0, (0, 0)), (0, (1, 1, 0)))),
            (("do", ("num", 1), ("say", ("free", 0))), ((0, (1,)),)),
            (("num", 1), ((0, (1, 0)),)),
        ))
        self.assertEqual(marks(program, 1), (("one",), ("parts", 0, 1), ("grows", 0, 1), ("one",), ("one",)))
        self.assertEqual(great(program, 1), (((0, (0,)), (0, (1, 1))),))

    def test_least_numbers_leave_pieces_out(self):
        program = ((), op(("say", X), ("do", ONE, ("say", Y))))
        for least, many in ((1, 5), (2, 3), (3, 2), (4, 2), (5, 1), (7, 1), (8, 0)):
            rows = table(program, least)
            self.assertEqual(rows, tuple(row for row in table(program, 1) if len(each_path(row[0])) >= least))
            self.assertEqual(len(rows), many)
        self.assertEqual(great(program, 2), (((0, (0,)), (0, (1, 1))),))
        self.assertEqual(great(program, 3), ())

    def test_the_number_of_the_row_around_is_by_the_table_handed_out(self):
        program = ((), ("do", ("say", ("say", X)), ("say", ("say", Y))))
        self.assertEqual(marks(program, 1), (("one",), ("parts", 0, 1), ("grows", 0, 1), ("grows", 0, 2)))
        self.assertEqual(marks(program, 2), (("one",), ("parts", 0, 1), ("grows", 0, 1)))
        program = ((), ("do", ("let", "a", TAKE, op(ONE, X)), ("let", "b", TAKE, op(ONE, Y))))
        self.assertEqual(marks(program, 1)[2:], (("grows", 0, 1), ("grows", 1, 1), ("grows", 0, 3), ("grows", 1, 3)))

    def test_alike_in_unlike_bodies(self):
        f = ("f", ("x",), ("say", op(X, ONE)))
        g = ("g", ("a",), ("set", "y", op(("name", "a"), ONE)))
        program = ((f, g), ("let", "z", TAKE, op(Z, ONE)))
        places = ((0, (0,)), (1, (0,)), (2, (1,)))
        self.assertIn((("op", "+", ("free", 0), ("num", 1)), places), table(program, 3))
        self.assertEqual(great(program, 3), (places,))
        self.assertEqual(dict(zip([row[1] for row in table(program, 3)], marks(program, 3)))[places], ("parts", 0, 2))

    def test_alike_within_one_another(self):
        program = ((), ("say", ("say", ("say", X))))
        self.assertEqual(marks(program, 1), (("one",), ("one",), ("one",), ("one",)))
        program = ((), op(op(X, X), op(op(X, X), op(X, X))))
        self.assertEqual(great(program, 3)[0], ((0, (0,)), (0, (1, 0)), (0, (1, 1))))

    def test_alike_beside_one_another(self):
        program = ((), ("do", ("set", "a", TAKE), ("set", "b", TAKE), ("set", "c", TAKE)))
        places = ((0, (0,)), (0, (1,)), (0, (2,)))
        self.assertEqual(table(program, 2)[1], (("set", 0, ("take",)), places))
        self.assertEqual(great(program, 1), (places,))

    def test_alike_by_an_exchange_of_names_alone(self):
        program = ((), ("do", op(X, X), op(Y, Y), op(X, Y), op(Y, X), op(Y, Z)))
        self.assertEqual(great(program, 3), (((0, (0,)), (0, (1,))), ((0, (2,)), (0, (3,)), (0, (4,)))))

    def test_names_of_lets_and_bound_names(self):
        one = ("let", "x", TAKE, op(X, Y))
        other = ("let", "y", TAKE, op(Y, Z))
        caught = ("let", "x", TAKE, op(X, X))
        program = ((), ("do", one, other, caught))
        self.assertEqual(great(program, 2), (((0, (0,)), (0, (1,))),))
        self.assertEqual(table(program, 4)[1], (("let", ("take",), ("op", "+", ("own", 0), ("free", 0))), ((0, (0,)), (0, (1,)))))


class Growth(unittest.TestCase):
    def marks_of(self, program, *places):
        """The mark of the row with these places."""
        self.assertIs(is_program(program), True)
        return dict(zip([row[1] for row in table(program, 1)], marks(program, 1)))[places]

    def test_by_the_first_part_and_by_later_ones(self):
        rows = ("do", TAKE, TAKE, ("say", X), TAKE, ONE, ("num", 9))
        program = ((("f", (), rows),), ("let", "y", ONE, rows[:3] + (("say", Y),) + rows[4:]))
        self.assertEqual(table(program, 8)[0][1], ((0, ()), (1, (1,))))
        self.assertEqual(self.marks_of(program, (0, (2,)), (1, (1, 2))), ("grows", 2, 0))
        self.assertEqual(self.marks_of(program, (0, (5,)), (1, (1, 5))), ("grows", 5, 0))
        self.assertEqual(self.marks_of(program, (0, (2, 0)), (1, (1, 2, 0)))[:2], ("grows", 0))
        self.assertEqual(great(program, 3), (((0, ()), (1, (1,))),))

    def test_not_where_a_place_is_a_body(self):
        program = ((("f", (), op(X, ONE)),), ("do", TAKE, op(Y, ONE)))
        self.assertEqual(self.marks_of(program, (0, ()), (1, (1,))), ("body", 0))
        self.assertEqual(great(program, 3), (((0, ()), (1, (1,))),))
        program = ((("f", (), ("say", op(X, ONE))),), op(Y, ONE))
        self.assertEqual(self.marks_of(program, (0, (0,)), (1, ())), ("body", 1))
        self.assertEqual(great(program, 3), (((0, (0,)), (1, ())),))

    def test_not_where_paths_end_in_unlike_numbers(self):
        program = ((), op(("say", X), ("say", Y)))
        self.assertEqual(self.marks_of(program, (0, (0,)), (0, (1,))), ("parts", 0, 1))
        self.assertEqual(great(program, 2), (((0, (0,)), (0, (1,))),))
        program = ((), ("do", op(("say", X), ONE), op(("say", Y), ONE), op(ONE, ("say", X))))
        self.assertEqual(self.marks_of(program, (0, (0, 0)), (0, (1, 0)), (0, (2, 1))), ("parts", 0, 2))
        self.assertIn(((0, (0, 0)), (0, (1, 0)), (0, (2, 1))), great(program, 2))

    def test_not_where_the_pieces_around_are_not_alike(self):
        program = ((), ("do", op(("say", X), ONE), op(("say", Y), TAKE)))
        self.assertEqual(self.marks_of(program, (0, (0, 0)), (0, (1, 0))), ("around", 0, 1))
        self.assertEqual(great(program, 2), (((0, (0, 0)), (0, (1, 0))),))
        program = ((), ("do", op(("say", X), ONE), op(("say", Y), ONE), op(("say", Y), TAKE)))
        self.assertEqual(self.marks_of(program, (0, (0, 0)), (0, (1, 0)), (0, (2, 0))), ("around", 0, 2))
        self.assertEqual(great(program, 2), (((0, (0,)), (0, (1,))), ((0, (0, 0)), (0, (1, 0)), (0, (2, 0)))))

    def test_not_where_the_pieces_around_are_alike_but_for_a_name(self):
        program = ((), ("do", op(("say", X), X), op(("say", Y), X)))
        self.assertEqual(self.marks_of(program, (0, (0, 0)), (0, (1, 0))), ("around", 0, 1))

    def test_one_place(self):
        program = ((), ("do", TAKE, ONE))
        self.assertEqual(marks(program, 1), (("one",), ("one",), ("one",)))
        self.assertEqual(great(program, 1), ())

    def test_great_groups_in_the_order_of_the_table(self):
        one, other = ("set", "x", TAKE), op(X, ONE)
        program = ((), ("do", other, one, ("again", 2, one), ("again", 3, other)))
        self.assertEqual(great(program, 2), (((0, (0,)), (0, (3, 0))), ((0, (1,)), (0, (2, 0)))))


class SecondWays(unittest.TestCase):
    def test_tables(self):
        for program in some_programs(11, 200):
            for least in (1, 2, 4):
                self.assertEqual(table(program, least), plain_table(program, least))

    def test_great_groups(self):
        many = 0
        for program in some_programs(12, 200):
            for least in (1, 3):
                groups = [places for shape, places in table(program, least) if len(places) > 1]
                told = tuple(places for places in groups if not any(grows_by(program, places, c) for c in range(6)))
                self.assertEqual(great(program, least), told)
                many += len(groups) - len(told)
        self.assertGreater(many, 100)

    def test_marks(self):
        seen = {}
        for program in some_programs(13, 200):
            for least in (1, 2):
                rows = table(program, least)
                told = marks(program, least)
                self.assertEqual(len(told), len(rows))
                for at, mark in enumerate(told):
                    self.assertIs(type(mark), tuple)
                    self.assertTrue(is_right(program, rows, at, mark), (program, at, mark))
                    seen[mark[0]] = True
        self.assertEqual(sorted(seen), ["around", "body", "grows", "one", "parts"])

    def test_each_group_lies_within_a_great_one(self):
        for program in some_programs(14, 150):
            told = great(program, 1)
            for shape, places in table(program, 1):
                if len(places) > 1:
                    self.assertTrue(any(lies_within(places, other) for other in told), (program, places))

    def test_all_that_are_alike_are_together_and_no_others(self):
        for program in some_programs(15, 30):
            row_of = {place: at for at, (shape, places) in enumerate(table(program, 1)) for place in places}
            self.assertEqual(sorted(row_of), list(places_of(program, 1)))
            for one in row_of:
                for other in row_of:
                    like = alike(piece_at(program, one), piece_at(program, other)) is not None
                    self.assertEqual(row_of[one] == row_of[other], like)

    def test_kinds(self):
        program = some_programs(16, 1, most_deep=6)[0]
        for told in (table(program, 1), great(program, 1), marks(program, 1)):
            self.assertIs(type(told), tuple)
            for row in told:
                self.assertIs(type(row), tuple)
        for shape, places in table(program, 1):
            self.assertIs(type(places), tuple)
            self.assertTrue(all(is_place(program, place) for place in places))

    def test_however_deep(self):
        program = ((("f", (), chain(300)),), chain(300))
        self.assertEqual(great(program, 290), (((0, ()), (1, ())),))
        self.assertEqual(marks(program, 1)[1], ("grows", 0, 0))
        self.assertEqual(len(table(program, 1)), 301)


def lies_within(places, other):
    """Whether the places are those of the other group with one and the same path behind each."""
    if len(places) != len(other):
        return False
    number, path = places[0]
    first = other[0][1]
    behind = path[len(first):]
    return path[:len(first)] == first and tuple((k, ahead + behind) for k, ahead in other) == places


if __name__ == "__main__":
    unittest.main()
