"""[20], [21]: places of a program, the pieces there, the names that are local there."""

import copy
import unittest

from likepieces.errors import LikeError, NoPlace
from likepieces.pieces import is_place, local_names, piece_at, places_of
from tests.samples import NO_TREES, ONE, X, Y, chain, each_path, nested, refusal, some_programs

F = ("f", ("x", "b"), ("op", "+", X, ("let", "a", ("name", "b"), ("let", "x", Y, ("say", X)))))
G = ("g", (), ("do", ONE, ("call", "f", ("take",), ONE)))
MAIN = ("let", "y", ("let", "z", ONE, ("name", "z")), ("let", "y", Y, ("call", "f", Y, ("call", "g"))))
PROGRAM = ((F, G), MAIN)

NOWHERE = (
    (0, (2,)), (0, (0, 0)), (0, (-1,)), (0, (1, 0, 0)), (0, (1, 1, 1, 0, 0)), (1, (0, 0)), (1, (1, 0, 0)), (1, (2,)), (1, (1, 2)),
    (1, (1, -2)), (2, (1, 1, 2)), (2, (1, 1, 1, 0)), (3, ()), (-1, ()), (-3, ()), (10 ** 59, ()), (0, (10 ** 59,)), (0, (-10 ** 59,)),
)
OTHER_KINDS = (
    (False, ()), (True, ()), (True, (0,)), (0, (True,)), (0, (False,)), (0, (1, True)), (0, (1, False)), (1, (1, True)),
    [0, ()], (0, []), [0, []], (0, [1]), (0, ([],)), (0, (None,)), (0, ("0",)), ("0", ()), (None, ()), (0, ()) + (0,), (0,), (0, (), ()),
    ((), 0), (0, 0), (0, None), (0, "",), (0, 1), ((0,), ()), ((0, ()),), (0, ((),)), (0, ((0,),)), (0, (1, (0,))), (0, ("",)), "", "0.0", 0,
)


class Places(unittest.TestCase):
    def test_places_in_every_body(self):
        for number, body in enumerate((F[2], G[2], MAIN)):
            for path, e in each_path(body):
                place = (number, path)
                self.assertIs(is_place(PROGRAM, place), True, place)
                self.assertEqual(piece_at(PROGRAM, place), e)

    def test_main_alone(self):
        self.assertEqual(piece_at(((), X), (0, ())), X)
        self.assertEqual(local_names(((), X), (0, ())), ())
        for place in ((1, ()), (0, (0,)), (-1, ())):
            self.assertIs(is_place(((), X), place), False)

    def test_no_places(self):
        for thing in NOWHERE + OTHER_KINDS + NO_TREES:
            kept = copy.deepcopy(thing)
            self.assertIs(is_place(PROGRAM, thing), False, thing)
            for deed in (piece_at, local_names):
                error = refusal(self, NoPlace, deed, PROGRAM, thing)
                self.assertIs(error.place, thing)
                self.assertIsInstance(error, LikeError)
            self.assertEqual(repr(thing), repr(kept))

    def test_any_thing_however_nested(self):
        for at in range(1, 40):
            for thing in (nested((0, ()), at), (nested(0, at), ()), (0, nested((), at)), (0, (nested(0, at),)), (0, (1, nested(0, at)))):
                self.assertIs(is_place(PROGRAM, thing), False, thing)
                self.assertIs(refusal(self, NoPlace, piece_at, PROGRAM, thing).place, thing)
        wide = (0, (1,) * 20000)
        self.assertIs(is_place(PROGRAM, wide), False)
        self.assertIs(refusal(self, NoPlace, local_names, PROGRAM, wide).place, wide)

    def test_no_other_refusal_is_told_where_a_path_leads_nowhere(self):
        error = refusal(self, NoPlace, piece_at, PROGRAM, (0, (1, 7)))
        self.assertEqual(error.place, (0, (1, 7)))

    def test_however_deep(self):
        program = ((), chain(3000))
        self.assertEqual(piece_at(program, (0, (0,) * 3000)), X)
        self.assertIs(is_place(program, (0, (0,) * 3001)), False)


class Locals(unittest.TestCase):
    def locals(self, place, *names):
        self.assertEqual(local_names(PROGRAM, place), names, place)
        self.assertIs(type(local_names(PROGRAM, place)), tuple)

    def test_params(self):
        self.locals((0, ()), "b", "x")
        self.locals((0, (0,)), "b", "x")
        self.locals((0, (1,)), "b", "x")
        self.locals((1, ()))
        self.locals((1, (1, 0)))

    def test_many_sorted(self):
        body = ("let", "k", ONE, ("let", "h", ONE, ("let", "e", ONE, ("let", "b", ONE, ("take",)))))
        program = ((("f", ("j", "i", "g", "f", "d", "c"), body),), ONE)
        self.assertEqual(local_names(program, (0, (1, 1, 1, 1))), tuple("bcdefghijk"))

    def test_lets_around(self):
        self.locals((0, (1, 0)), "b", "x")
        self.locals((0, (1, 1)), "a", "b", "x")
        self.locals((2, ()))

    def test_a_param_and_a_let_of_one_name(self):
        self.locals((0, (1, 1, 0)), "a", "b", "x")
        self.locals((0, (1, 1, 1)), "a", "b", "x")
        self.locals((0, (1, 1, 1, 0)), "a", "b", "x")

    def test_two_lets_of_one_name(self):
        self.locals((2, (1,)), "y")
        self.locals((2, (1, 0)), "y")
        self.locals((2, (1, 1, 0)), "y")

    def test_the_first_part_of_a_let(self):
        self.locals((2, (0,)))
        self.locals((2, (0, 0)))
        self.locals((2, (0, 1)), "z")


class PlacesOf(unittest.TestCase):
    def test_all(self):
        told = tuple((number, path) for number, body in enumerate((F[2], G[2], MAIN)) for path, e in each_path(body))
        self.assertEqual(places_of(PROGRAM, 1), told)
        self.assertEqual(list(told), sorted(told))

    def test_by_a_least_number(self):
        self.assertEqual(places_of(PROGRAM, 4), ((0, ()), (0, (1,)), (0, (1, 1)), (1, ()), (2, ()), (2, (1,))))
        self.assertEqual(places_of(PROGRAM, 5), ((0, ()), (0, (1,)), (1, ()), (2, ()), (2, (1,))))
        self.assertEqual(places_of(PROGRAM, 8), ((0, ()), (2, ())))
        self.assertEqual(places_of(PROGRAM, 9), ((2, ()),))
        self.assertEqual(places_of(PROGRAM, 10), ())
        self.assertEqual(places_of(PROGRAM, 10 ** 59), ())
        self.assertEqual(places_of(((), X), 1), ((0, ()),))
        self.assertEqual(places_of(((), X), 2), ())

    def test_like_a_second_way(self):
        for program in some_programs(3, 150):
            bodies = [function[2] for function in program[0]] + [program[1]]
            for least in (1, 2, 3, 7):
                told = []
                for number, body in enumerate(bodies):
                    told.extend((number, path) for path, e in each_path(body) if len(each_path(e)) >= least)
                self.assertEqual(places_of(program, least), tuple(sorted(told)))

    def test_order_by_numbers_not_by_figures(self):
        functions = tuple(("f" + letter, (), ONE) for letter in "abcdefghijklmnop")
        told = places_of((functions, ("do", ONE, X)), 1)
        self.assertEqual(told, tuple((at, ()) for at in range(17)) + ((16, (0,)), (16, (1,))))

    def test_however_deep(self):
        program = ((), chain(2000))
        self.assertEqual(places_of(program, 1999), ((0, ()), (0, (0,)), (0, (0, 0))))


if __name__ == "__main__":
    unittest.main()
