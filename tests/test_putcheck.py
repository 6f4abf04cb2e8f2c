"""[27], [28], [29]: papers, still and sure once, the checker of papers."""

import copy
import random
import unittest

from likepieces.errors import LikeError, NoPut
from likepieces.programs import is_program
from likepieces.putcheck import lets_put
from tests.papers import changed_paper, plain_refusal, some_paper
from tests.samples import NO_TREES, ONE, X, Y, chain, each_path, nested, refusal, some_programs

TAKE = ("take",)
TWO = ("num", 2)
ZERO = ("num", 0)
A, B, Z = ("name", "a"), ("name", "b"), ("name", "z")
HOLES = tuple(("hole", i) for i in range(8))
H0, H1, H2 = HOLES[:3]
STILL, ONCE = "still", "once"


def op(sign, one, other):
    return ("op", sign, one, other)


F = ("f", ("x",), op("+", X, ONE))
G = ("g", ("a", "b"), ("let", "z", ("call", "f", A), ("say", op("*", Z, B))))
MAIN = ("do", ("say", op("*", X, ("num", 5))), ("say", op("*", TAKE, ("num", 7))), ("let", "y", ONE, ("call", "f", Y)))
PROGRAM = ((F, G), MAIN)

# One paper that is let by: a product that is said, at three places.
PATTERN = ("say", op("*", H0, H1))
ROW = ((2, (0,)), (X, ("num", 5)), (STILL, STILL))
TAKING = ((2, (1,)), (TAKE, ("num", 7)), (ONCE, STILL))
BOUND = ((1, (1,)), (Z, B), (STILL, STILL))
ROWS = (ROW, TAKING, BOUND)
PAPER = (1, "new", ("p", "q"), PATTERN, ROWS)


def paper(index=1, name="new", params=("p", "q"), pattern=PATTERN, rows=ROWS):
    return (index, name, params, pattern, rows)


class Case(unittest.TestCase):
    def let_by(self, thing, program=PROGRAM):
        self.assertIs(is_program(program), True)
        self.assertIs(lets_put(program, thing), True, thing)

    def refused(self, word, row, hole, thing, program=PROGRAM):
        kept = copy.deepcopy(thing)
        error = refusal(self, NoPut, lets_put, program, thing)
        self.assertEqual((error.word, error.row, error.hole), (word, row, hole), thing)
        self.assertIsInstance(error, LikeError)
        self.assertEqual(repr(thing), repr(kept))

    def piece(self, told, e, pattern, fillings, ways, functions=(), hole=0):
        """A paper for the whole main e: told is True, or the word by which the hole is refused."""
        program = (functions, e)
        thing = (len(functions), "new", ("p", "q", "r", "s")[:len(fillings)], pattern, (((len(functions), ()), fillings, ways),))
        if told is True:
            self.let_by(thing, program)
        else:
            self.refused(told, 0, hole, thing, program)


class Papers(Case):
    def test_let_by(self):
        self.let_by(PAPER)
        self.assertIs(is_program(PROGRAM), True)

    def test_no_rows(self):
        for index in range(3):
            self.let_by(paper(index, rows=()))
            self.let_by((index, "new", (), X, ()))

    def test_rows_in_any_order(self):
        for rows in ((BOUND, TAKING, ROW), (TAKING, ROW), (BOUND,), (TAKING, ROW, BOUND)):
            self.let_by(paper(rows=rows))

    def test_a_pattern_that_is_a_hole_alone(self):
        self.let_by((2, "new", ("p",), H0, (((2, ()), (bare_main(),), (ONCE,)),)))
        self.let_by((2, "new", ("p",), H0, (((2, (0, 0, 0)), (X,), (STILL,)), ((2, (1, 0, 0)), (TAKE,), (ONCE,)))))

    def test_six_holes(self):
        e = ("do",) + tuple(("num", k) for k in range(6))
        pattern = ("do",) + HOLES[:6]
        fillings = e[1:]
        self.let_by((0, "new", tuple("abcdef"), pattern, (((0, ()), fillings, (STILL,) * 6),)), ((), e))
        self.let_by((0, "new", tuple("abcdef"), pattern, (((0, ()), fillings, (ONCE,) * 6),)), ((), e))


def bare_main():
    return ("do", ("say", op("*", X, ("num", 5))), ("say", op("*", TAKE, ("num", 7))), ("let", ONE, ("call", "f", ("own", 0))))


class Shape(Case):
    def shape(self, thing):
        self.refused("shape", -1, -1, thing)

    def test_any_thing(self):
        for thing in NO_TREES + (PROGRAM, list(PAPER), PAPER[:4], PAPER[1:], PAPER + (None,), PAPER + ((),)):
            self.shape(thing)
        for at in range(1, 30):
            self.shape(nested(PAPER, at))

    def test_index(self):
        for thing in (True, False, None, "1", (1,), [1], ()):
            self.shape(paper(index=thing))

    def test_name(self):
        for thing in (None, 1, True, "", "New", "num", "hole", "ninechars", ("new",), ["new"], "a b"):
            self.shape(paper(name=thing))

    def test_params(self):
        for thing in (("p",), ("p", "q", "r"), (), ["p", "q"], "pq", None, ("p", None), ("p", 1), ("p", True), ("p", "P"), ("p", "let"), ("p", ("q",))):
            self.shape(paper(params=thing))

    def test_pattern(self):
        for thing in NO_TREES + (["say", op("*", H0, H1)], ("say", op("*", H0, H2)), ("say", op("*", H0, ("hole", True))), op("*", H1, H2),
                                 op("*", op("*", H0, H1), ("own", 0)), ("let", "x", H0, H1), ("let", H0, op("+", H1, ("own", 1))),
                                 op("*", op("*", H0, H1), ("num", True)), op("*", op("*", H0, H1), ("free", 0))):
            self.shape(paper(pattern=thing))
            self.shape(paper(pattern=thing, rows=()))

    def test_seven_holes(self):
        pattern = ("do", ("do",) + HOLES[:6], HOLES[6])
        self.shape((0, "new", tuple("abcdefg"), pattern, ()))
        self.shape((0, "new", tuple("abcdef"), pattern, ()))

    def test_rows(self):
        for thing in (None, True, 0, "", "ab", list(ROWS), ROW):
            self.shape(paper(rows=thing))
        for thing in NO_TREES + (ROW[:2], ROW[1:], ROW + (None,), list(ROW)):
            self.shape(paper(rows=(thing,)))
            self.shape(paper(rows=(TAKING, BOUND, thing)))

    def with_row(self, place=ROW[0], fillings=ROW[1], ways=ROW[2]):
        return paper(rows=(TAKING, (place, fillings, ways)))

    def test_fillings(self):
        for thing in ((), (X,), (X, ("num", 5), X), [X, ("num", 5)], None, X, "ab"):
            self.shape(self.with_row(fillings=thing))
        for thing in NO_TREES + (H0, ("own", 0), ("say", H0), ("let", ONE, ("own", 1)), ("let", "x", ONE, X), ("num", True), ["num", 5], ("free", 0)):
            if thing not in (("take",),):
                self.shape(self.with_row(fillings=(X, thing)))
                self.shape(self.with_row(fillings=(thing, ("num", 5))))

    def test_ways(self):
        for thing in ((), (STILL,), (STILL, STILL, STILL), [STILL, STILL], None, STILL, "ab", (STILL, "Still"), (STILL, "never"), (STILL, ""),
                      (STILL, None), (STILL, True), (STILL, 0), (STILL, (ONCE,)), (STILL, [ONCE]), ("once ", STILL), (H0, STILL)):
            self.shape(self.with_row(ways=thing))

    def test_a_place_may_be_any_thing(self):
        for thing in NO_TREES + ((2, (True,)), (True, ()), [2, (0,)], (2, [0])):
            self.refused("place", 1, -1, self.with_row(place=thing))
            self.refused("place", 0, -1, paper(rows=((thing, (X, ONE), (STILL, STILL)),)))


class AheadOfRows(Case):
    def test_name(self):
        for name in ("f", "g"):
            self.refused("name", -1, -1, paper(name=name))
            self.refused("name", -1, -1, paper(name=name, rows=()))
        for name in ("h", "x", "p", "main"):
            self.let_by(paper(name=name))

    def test_param_like_one_ahead(self):
        self.refused("param", -1, 1, paper(params=("p", "p")))
        pattern = ("do", H0, H1, H2, HOLES[3])
        for params, hole in ((("p", "q", "p", "q"), 2), (("p", "q", "q", "p"), 2), (("p", "q", "r", "p"), 3), (("p", "p", "p", "p"), 1)):
            self.refused("param", -1, hole, (0, "new", params, pattern, ()))

    def test_param_of_the_pattern(self):
        pattern = ("do", H0, ("set", "y", X), ("let", H1, op("+", ("own", 0), B)))
        for params, hole in ((("x", "q"), 0), (("p", "x"), 1), (("y", "q"), 0), (("p", "y"), 1), (("b", "y"), 0), (("p", "b"), 1)):
            self.refused("param", -1, hole, (0, "new", params, pattern, ()))
        self.let_by((0, "new", ("new", "f"), pattern, ()))
        self.let_by((2, "new", ("f",), ("call", "f", H0), ()))

    def test_index(self):
        for index in (-1, 3, 10 ** 59, -10 ** 59):
            self.refused("index", -1, -1, paper(index=index, rows=()))
            self.refused("index", -1, -1, paper(index=index))
        for index in (0, 1, 2):
            self.let_by(paper(index=index, rows=()))

    def test_index_and_calls(self):
        for pattern, least in ((("call", "f", H0), 1), (("say", ("call", "f", ("do", H0))), 1), (("call", "g", H0, ONE), 2),
                               (("call", "f", ("call", "g", H0, ("call", "f", ONE))), 2)):
            for index in range(3):
                thing = (index, "new", ("p",), pattern, ())
                if index < least:
                    self.refused("index", -1, -1, thing)
                else:
                    self.let_by(thing)
        for call in (("call", "nobody", H0), ("call", "new", H0), ("call", "p", H0), ("call", "f", H0, ONE), ("call", "g", H0), ("do", H0, ("call", "f"))):
            for index in range(3):
                self.refused("index", -1, -1, (index, "new", ("p",), call, ()))


class Places(Case):
    def test_no_place(self):
        for thing in NO_TREES + ((2, (0, 7)), (3, ()), (-1, ()), (2, (False,)), [2, (0,)], (2, [0]), (2, (0,), 0), (2, (-3,))):
            self.refused("place", 0, -1, paper(rows=((thing,) + ROW[1:],)))
            self.refused("place", 2, -1, paper(rows=(TAKING, BOUND, (thing,) + ROW[1:])))

    def test_a_body_below_the_index(self):
        self.let_by(paper(index=1))
        self.refused("place", 2, -1, paper(index=2))
        self.refused("place", 0, -1, paper(index=2, rows=(BOUND, ROW)))
        self.let_by(paper(index=2, rows=(ROW, TAKING)))
        self.let_by(paper(index=0))

    def test_the_same_place_twice(self):
        self.refused("place", 3, -1, paper(rows=ROWS + (ROW,)))
        self.refused("place", 1, -1, paper(rows=(ROW, ROW)))

    def test_within_and_around_another(self):
        e = op("+", op("+", op("+", X, ONE), ONE), op("+", Y, ONE))
        program = ((), ("do", e, op("+", Z, ONE)))
        pattern = op("+", H0, ONE)

        def row(path, filling):
            return ((0, path), (filling,), (STILL,))

        outer, inner = row((0, 0), op("+", X, ONE)), row((0, 0, 0), X)
        beside, last = row((0, 1), Y), row((1,), Z)

        def thing(*rows):
            return (0, "new", ("p",), pattern, rows)

        self.let_by(thing(outer, beside, last), program)
        self.let_by(thing(last, inner, beside), program)
        self.refused("place", 1, -1, thing(outer, inner), program)
        self.refused("place", 1, -1, thing(inner, outer), program)
        self.refused("place", 3, -1, thing(last, outer, beside, inner), program)
        self.refused("place", 3, -1, thing(inner, last, beside, outer), program)
        whole = ((("f", (), op("+", X, ONE)),), op("+", X, ONE))
        self.let_by((0, "new", ("p",), pattern, tuple(((k, ()), (X,), (STILL,)) for k in (0, 1))), whole)

    def test_a_body_and_a_part_of_it(self):
        program = ((), op("+", op("+", X, ONE), ONE))
        rows = (((0, ()), (op("+", X, ONE),), (STILL,)), ((0, (0,)), (X,), (STILL,)))
        self.refused("place", 1, -1, (0, "new", ("p",), op("+", H0, ONE), rows), program)
        self.refused("place", 1, -1, (0, "new", ("p",), op("+", H0, ONE), rows[::-1]), program)

    def test_local(self):
        program = ((("f", ("x",), ("say", X)),), ("do", ("say", X), ("let", "x", ("say", X), ("say", X)), ("let", "y", ONE, ("say", X))))

        def rows(*places):
            return (0, "new", (), ("say", X), tuple((place, (), ()) for place in places))

        self.let_by(rows((1, (0,)), (1, (1, 0)), (1, (2, 1))), program)
        self.refused("local", 0, -1, rows((0, ())), program)
        self.refused("local", 1, -1, rows((1, (0,)), (1, (1, 1))), program)

    def test_local_ahead_of_piece(self):
        program = ((), ("let", "x", ONE, ("say", Y)))
        for place, word in (((0, (1,)), "local"), ((0, (0,)), "piece"), ((0, ()), "piece")):
            self.refused(word, 0, -1, (0, "new", (), ("say", X), ((place, (), ()),)), program)

    def test_a_name_of_a_set_is_not_asked(self):
        program = ((), ("let", "x", ONE, ("set", "y", TAKE)))
        self.refused("piece", 0, -1, (0, "new", (), ("set", "x", TAKE), (((0, (1,)), (), ()),)), program)
        self.let_by((0, "new", (), ("set", "y", TAKE), (((0, (1,)), (), ()),)), program)

    def test_piece(self):
        place, fillings, ways = ROW
        for other in ((Y, ("num", 5)), (X, ("num", 6)), (("num", 5), X), (X, ("do", ("num", 5))), (TAKE, ("num", 5))):
            self.refused("piece", 1, -1, paper(rows=(TAKING, (place, other, ways))))
        self.refused("piece", 0, -1, paper(rows=(((2, (1,)), fillings, ways),)))
        self.refused("piece", 0, -1, paper(rows=(((2, ()), fillings, ways),)))
        self.refused("piece", 0, -1, paper(pattern=("say", op("+", H0, H1))))
        self.refused("piece", 0, -1, paper(pattern=("do", op("*", H0, H1))))
        self.refused("piece", 0, -1, paper(pattern=("do", ("say", op("*", H0, H1)))))

    def test_piece_but_for_names_of_lets(self):
        program = ((), ("let", "x", TAKE, ("let", "y", X, op("+", X, op("*", Y, Z)))))
        pattern = ("let", H0, ("let", ("own", 0), op("+", ("own", 1), op("*", ("own", 0), H1))))
        self.let_by((0, "new", ("p", "q"), pattern, (((0, ()), (TAKE, Z), (ONCE, STILL)),)), program)
        wrong = ("let", H0, ("let", ("own", 0), op("+", ("own", 0), op("*", ("own", 0), H1))))
        self.refused("piece", 0, -1, (0, "new", ("p", "q"), wrong, (((0, ()), (TAKE, Z), (ONCE, STILL)),)), program)


class Still(Case):
    def test_quiet(self):
        for told, b in ((True, X), (True, ONE), (True, op("/", X, TWO)), (True, ("let", X, ("own", 0))), (True, ("again", 3, ("do", X, Y))),
                        ("still", TAKE), ("still", ("say", ONE)), ("still", ("set", "b", ONE)), ("still", op("/", ONE, X)), ("still", op("/", X, ZERO))):
            e = named_let(b)
            self.piece(told, op("+", e, e), op("+", H0, H0), (b,), (STILL,))
            self.piece(told, op("+", e, e), op("+", H0, H1), (b, b), (STILL, STILL))

    def test_by_a_call(self):
        f = ("f", ("x",), op("+", X, Z))
        g = ("g", ("x",), ("set", "b", X))
        for told, functions, call in ((True, (f,), ("call", "f", ONE)), ("still", (g,), ("call", "g", ONE)), ("still", (f,), ("call", "f", TAKE))):
            self.piece(told, ("say", call), ("say", H0), (call,), (STILL,), functions)
        self.piece("still", ("do", ("set", "z", ONE), ("call", "f", ONE)), ("do", ("set", "z", ONE), H0), (("call", "f", ONE),), (STILL,), (f,))
        self.piece("still", ("do", X, ("call", "h")), ("do", H0, ("call", "h")), (X,), (STILL,), (("h", (), ("set", "x", ONE)),))
        self.piece(True, ("do", X, ("call", "h")), ("do", H0, ("call", "h")), (X,), (STILL,), (("h", (), ("set", "y", X)),))

    def test_changes_of_the_pattern(self):
        self.piece("still", ("do", ("set", "x", ONE), X), ("do", ("set", "x", ONE), H0), (X,), (STILL,))
        self.piece("still", ("do", X, ("set", "x", ONE)), ("do", H0, ("set", "x", ONE)), (X,), (STILL,))
        self.piece(True, ("do", Y, ("set", "x", ONE)), ("do", H0, ("set", "x", ONE)), (Y,), (STILL,))
        self.piece("still", ("set", "x", op("+", X, ONE)), ("set", "x", op("+", H0, ONE)), (X,), (STILL,))
        self.piece(True, ("set", "x", op("+", X, ONE)), ("set", "x", op("+", H0, ONE)), (X,), (ONCE,))

    def test_changes_of_other_fillings(self):
        setting = ("set", "x", ONE)
        self.piece("still", op("+", X, setting), op("+", H0, H1), (X, setting), (STILL, ONCE))
        self.piece("still", op("+", setting, X), op("+", H0, H1), (setting, X), (ONCE, STILL), hole=1)
        self.piece(True, op("+", setting, Y), op("+", H0, H1), (setting, Y), (ONCE, STILL))
        self.piece(True, op("+", setting, X), op("+", H0, H1), (setting, X), (ONCE, ONCE))
        self.piece("still", op("+", setting, ONE), op("+", H0, H1), (setting, ONE), (STILL, STILL))

    def test_local_names_are_held(self):
        program = ((("f", ("x",), ("let", "y", X, ("do", ("say", X), ("set", "b", Y)))),), ("do", ("say", X), ("set", "b", Y)))
        pattern = ("do", ("say", H0), ("set", "b", H1))
        rows = (((1, ()), (X, Y), (STILL, STILL)), ((0, (1,)), (X, Y), (STILL, STILL)))
        self.let_by((0, "new", ("p", "q"), pattern, rows), program)

    def test_held_where_it_is_local_alone(self):
        e = ("do", ("say", X), ("set", "x", ONE))
        program = ((("f", ("y",), ("let", "z", ONE, ("do", ("say", Z), ("set", "x", ONE)))),), e)
        pattern = ("do", ("say", H0), ("set", "x", ONE))
        self.let_by((0, "new", ("p",), pattern, (((0, (1,)), (Z,), (STILL,)), ((1, ()), (X,), (ONCE,)))), program)
        self.refused("still", 1, 0, (0, "new", ("p",), pattern, (((0, (1,)), (Z,), (STILL,)), ((1, ()), (X,), (STILL,)))), program)


class Once(Case):
    def test_twice(self):
        self.piece("once", op("+", X, X), op("+", H0, H0), (X,), (ONCE,))
        self.piece(True, op("+", X, X), op("+", H0, H0), (X,), (STILL,))
        self.piece(True, op("+", X, X), op("+", H0, H1), (X, X), (ONCE, ONCE))

    def test_picks_and_agains(self):
        e = ("pick", TAKE, TAKE, X)
        self.piece(True, e, ("pick", H0, TAKE, X), (TAKE,), (ONCE,))
        self.piece("once", e, ("pick", TAKE, H0, X), (TAKE,), (ONCE,))
        self.piece("once", e, ("pick", TAKE, TAKE, H0), (X,), (ONCE,))
        self.piece("once", e, ("pick", H0, H1, X), (TAKE, TAKE), (ONCE, ONCE), hole=1)
        self.piece("once", ("again", 1, TAKE), ("again", 1, H0), (TAKE,), (ONCE,))
        self.piece("still", ("again", 1, TAKE), ("again", 1, H0), (TAKE,), (STILL,))

    def test_order(self):
        e = op("-", TAKE, TAKE)
        self.piece(True, e, op("-", H0, H1), (TAKE, TAKE), (ONCE, ONCE))
        self.piece("order", e, op("-", H1, H0), (TAKE, TAKE), (ONCE, ONCE), hole=1)
        self.piece("order", op("-", X, Y), op("-", H1, H0), (Y, X), (ONCE, ONCE), hole=1)
        self.piece(True, op("-", X, Y), op("-", H1, H0), (Y, X), (STILL, ONCE))
        self.piece(True, op("-", X, Y), op("-", H1, H0), (Y, X), (ONCE, STILL))
        self.piece(True, op("-", X, op("+", X, Y)), op("-", H1, op("+", H1, H0)), (Y, X), (ONCE, STILL))
        e = ("do", X, TAKE, TAKE)
        self.piece("order", e, ("do", H2, H0, H1), (TAKE, TAKE, X), (ONCE, ONCE, ONCE), hole=2)
        self.piece("order", e, ("do", H1, H2, H0), (TAKE, X, TAKE), (ONCE, ONCE, STILL), hole=1)
        self.piece("order", e, ("do", H0, H2, H1), (X, TAKE, TAKE), (STILL, ONCE, ONCE), hole=2)

    def test_order_of_a_node_and_the_parts_of_another(self):
        e = ("do", ("say", ("do", X, Y)), Z)
        self.piece(True, e, ("do", ("say", ("do", X, H0)), H1), (Y, Z), (ONCE, ONCE))
        self.piece("order", e, ("do", ("say", ("do", X, H1)), H0), (Z, Y), (ONCE, ONCE), hole=1)

    def test_clash(self):
        self.piece("clash", op("-", TAKE, TAKE), op("-", TAKE, H0), (TAKE,), (ONCE,))
        self.piece(True, op("-", TAKE, TAKE), op("-", H0, TAKE), (TAKE,), (ONCE,))
        self.piece("clash", ("do", ("say", X), ("say", Y)), ("do", ("say", X), H0), (("say", Y),), (ONCE,))
        self.piece(True, ("do", ("say", X), ("say", Y)), ("do", ("say", X), ("say", H0)), (Y,), (ONCE,))
        self.piece("clash", ("do", ("set", "x", ONE), X), ("do", ("set", "x", ONE), H0), (X,), (ONCE,))
        self.piece("clash", ("do", X, ("set", "x", ONE)), ("do", X, H0), (("set", "x", ONE),), (ONCE,))
        self.piece(True, ("do", Y, ("set", "x", ONE)), ("do", Y, H0), (("set", "x", ONE),), (ONCE,))
        self.piece("clash", ("do", ("say", X), TAKE), ("do", ("say", X), H0), (TAKE,), (ONCE,))
        self.piece(True, ("do", op("+", X, ONE), TAKE), ("do", op("+", X, ONE), H0), (TAKE,), (ONCE,))
        self.piece("clash", ("do", op("/", X, Y), TAKE), ("do", op("/", X, Y), H0), (TAKE,), (ONCE,))
        self.piece("clash", ("do", op("/", X, Y), ("set", "z", ONE)), ("do", op("/", X, Y), H0), (("set", "z", ONE),), (ONCE,))
        self.piece(True, ("do", op("/", X, Y), Z), ("do", op("/", X, Y), H0), (Z,), (ONCE,))

    def test_clash_with_what_a_call_does(self):
        f = ("f", (), ("say", Z))
        self.piece("clash", ("do", ("call", "f"), ("say", X)), ("do", ("call", "f"), H0), (("say", X),), (ONCE,), (f,))
        self.piece("clash", ("do", ("call", "f"), ("set", "z", X)), ("do", ("call", "f"), H0), (("set", "z", X),), (ONCE,), (f,))
        self.piece("clash", ("do", ("say", X), ("call", "f")), ("do", ("say", X), H0), (("call", "f"),), (ONCE,), (f,))
        self.piece(True, ("do", ("call", "f"), ("set", "y", X)), ("do", ("call", "f"), H0), (("set", "y", X),), (ONCE,), (f,))

    def test_other_holes_ahead_count_as_nothing(self):
        self.piece(True, ("do", X, ("say", Y), TAKE), ("do", H0, ("say", H1), TAKE), (X, Y), (STILL, ONCE))
        self.piece("clash", ("do", X, ("say", Y), TAKE), ("do", H0, ("say", H1), H2), (X, Y, TAKE), (STILL, ONCE, ONCE), hole=2)
        self.piece(True, ("do", TAKE, op("*", TAKE, Y)), ("do", H0, op("*", H1, Y)), (TAKE, TAKE), (ONCE, ONCE))

    def test_local_names_are_held_at_the_place(self):
        program = ((("f", ("x",), ("do", ("set", "z", ONE), X)),), ("do", ("set", "z", ONE), Z))
        pattern = ("do", ("set", "z", ONE), H0)
        self.let_by((0, "new", ("p",), pattern, (((0, ()), (X,), (ONCE,)),)), program)
        self.refused("clash", 1, 0, (0, "new", ("p",), pattern, (((0, ()), (X,), (ONCE,)), ((1, ()), (Z,), (ONCE,)))), program)
        within = ((), ("let", "z", ONE, ("let", "y", ("set", "b", ONE), Z)))
        self.let_by((0, "new", ("p",), ("let", ("set", "b", ONE), H0), (((0, (1,)), (Z,), (ONCE,)),)), within)


class TheFirst(Case):
    def test_of_several(self):
        bad = (None, (X, ("num", 5)), (ONCE, STILL))
        self.refused("shape", -1, -1, paper(9, "f", ("x", "x"), rows=(bad, None)))
        self.refused("name", -1, -1, paper(9, "f", ("x", "x"), rows=(bad,)))
        self.refused("param", -1, 1, paper(9, params=("x", "x"), rows=(bad,)))
        self.refused("index", -1, -1, paper(9, rows=(bad,)))
        self.refused("place", 0, -1, paper(rows=(bad, ROW, ROW)))

    def test_rows_one_by_one(self):
        place, fillings, ways = TAKING
        once, piece = (place, fillings, (STILL, STILL)), (ROW[0], (Y, ONE), (STILL, STILL))
        self.refused("still", 0, 0, paper(rows=(once, piece)))
        self.refused("piece", 0, -1, paper(rows=(piece, once)))
        self.refused("still", 1, 0, paper(rows=(BOUND, once, BOUND)))
        self.refused("place", 1, -1, paper(rows=(BOUND, BOUND, once)))

    def test_holes_one_by_one(self):
        e = ("do", ("say", X), TAKE, op("+", Y, Y))
        program = ((), e)
        fillings = (("say", X), TAKE, Y)

        def thing(*ways):
            return (0, "new", ("p", "q", "r"), ("do", H0, H1, op("+", H2, H2)), (((0, ()), fillings, ways),))

        self.let_by(thing(ONCE, ONCE, STILL), program)
        self.refused("once", 0, 2, thing(ONCE, ONCE, ONCE), program)
        self.refused("still", 0, 1, thing(ONCE, STILL, ONCE), program)
        self.refused("still", 0, 0, thing(STILL, STILL, ONCE), program)

    def test_once_ahead_of_order_ahead_of_clash(self):
        self.piece("once", ("do", X, X, Z), ("do", H1, H1, H0), (Z, X), (ONCE, ONCE), hole=1)
        self.piece("once", ("do", TAKE, TAKE, TAKE), ("do", TAKE, H0, H0), (TAKE,), (ONCE,))
        self.piece("order", ("do", X, TAKE, Y), ("do", X, H1, H0), (Y, TAKE), (ONCE, ONCE), hole=1)
        self.piece("order", ("do", ("set", "x", ONE), X, Y), ("do", ("set", "x", ONE), H1, H0), (Y, X), (ONCE, ONCE), hole=1)

    def test_a_lesser_hole_ahead_of_the_words(self):
        e = ("do", TAKE, op("+", TAKE, TAKE))
        self.piece("clash", e, ("do", TAKE, op("+", H1, H0)), (TAKE, TAKE), (ONCE, ONCE), hole=0)
        self.piece("clash", e, ("do", TAKE, op("+", H0, H1)), (TAKE, TAKE), (ONCE, STILL), hole=0)

    def test_like_a_second_way(self):
        rng = random.Random(41)
        seen = {}
        for program in some_programs(42, 700) + some_programs(43, 500, names=("a", "x")):
            thing = some_paper(rng, program)
            for at in range(rng.randint(0, 2)):
                thing = changed_paper(rng, program, thing) if thing[4] else thing
            if len(thing[2]) > 6 or any(has_loose(b) for row in thing[4] for b in row[1]):
                self.refused("shape", -1, -1, thing, program)
                continue
            told = plain_refusal(program, thing)
            seen[told[0] if told else "let by"] = True
            if told is None:
                self.let_by(thing, program)
            else:
                self.refused(told[0], told[1], told[2], thing, program)
        words = ["clash", "index", "let by", "local", "name", "once", "order", "param", "piece", "place", "still"]
        self.assertEqual(sorted(seen), words)

    def test_however_deep(self):
        pattern = ("hole", 0)
        for at in range(1500):
            pattern = ("do", pattern)
        program = ((("f", (), chain(1500)),), chain(1500))
        rows = tuple(((k, ()), (X,), (STILL,)) for k in (0, 1))
        self.let_by((0, "new", ("p",), pattern, rows), program)
        self.let_by((0, "new", ("p",), H0, tuple(((k, ()), (chain(1500),), (STILL,)) for k in (0, 1))), program)


def has_loose(b):
    """Whether an own of the bare form is loose, by its path: lets whose second parts it stands in are too few."""
    nodes = dict(each_path(b))
    for path, node in nodes.items():
        around = [at for at in range(len(path)) if nodes[path[:at]][0] == "let" and path[at] == 1]
        if node[0] == "own" and node[1] >= len(around):
            return True
    return False


def named_let(b):
    """An expression of which b, with one let at most, is the bare form."""
    return ("let", "n", b[1], ("name", "n")) if b[0] == "let" else b


if __name__ == "__main__":
    unittest.main()
