"""[31]: the pattern at places, and a paper for it or why there is none; [30] and [3] for such papers."""

import copy
import random
import unittest

from likepieces.errors import LikeError, NoPlaces
from likepieces.patterns import filled, is_pattern
from likepieces.pieces import piece_at, places_of
from likepieces.programs import is_program, work
from likepieces.putcheck import lets_put
from likepieces.puts import put
from likepieces.putting import paper_for, pattern_at
from likepieces.runs import run
from likepieces.tables import table
from tests.backing import plain_answer, plain_pattern
from tests.papers import is_apart, some_places
from tests.samples import NO_TREES, ONE, X, Y, chain, kids, nested, plain_bare, refusal, some_programs, with_kids

TAKE = ("take",)
TWO, FIVE = ("num", 2), ("num", 5)
A, B, Z = ("name", "a"), ("name", "b"), ("name", "z")
HOLES = tuple(("hole", i) for i in range(8))
H0, H1, H2, H3 = HOLES[:4]
OWN = ("own", 0)
STILL, ONCE = "still", "once"
INPUTS = ((), (0,), (1,), (3, 0), (2, 1, 0), (0, 0, 0, 5), (7, 6, 5, 4, 3, 2, 1), (1,) * 20, tuple(range(20)))


def op(sign, one, other):
    return ("op", sign, one, other)


def setting(x, e):
    return ("set", x, e)


def beside(*pieces):
    """A program whose main does these pieces in order, and their places."""
    return ((), ("do",) + pieces), tuple((0, (at,)) for at in range(len(pieces)))


class Case(unittest.TestCase):
    def at(self, program, places, pattern, *fillings):
        """This pattern is told at the places, with these fillings."""
        self.assertIs(is_program(program), True)
        kept = copy.deepcopy((program, places))
        self.assertEqual(pattern_at(program, places), (pattern, fillings))
        self.assertEqual((program, places), kept)
        self.assertIs(is_pattern(pattern), True)
        for place, inner in zip(places, fillings):
            self.assertEqual(filled(pattern, inner), plain_bare(piece_at(program, place)))

    def is_put(self, program, places, *ways):
        """A paper is told that is let by, with these ways at each place; what comes by it is told."""
        kept = copy.deepcopy((program, places))
        told = paper_for(program, places)
        self.assertEqual((program, places), kept)
        self.assertEqual((type(told), len(told), told[0]), (tuple, 2, "put"), told)
        paper = told[1]
        self.assertIs(lets_put(program, paper), True)
        pattern, fillings = pattern_at(program, places)
        self.assertEqual(paper[3], pattern)
        self.assertEqual(paper[4], tuple(zip(places, fillings, ways)))
        found = put(program, paper)
        self.assertIs(is_program(found), True)
        for row in INPUTS if work(program) <= 2000 else ():
            self.assertEqual(run(found, row), run(program, row), (program, found, row))
        return found

    def is_not(self, program, places, word, hole, row):
        self.assertIs(is_program(program), True)
        self.assertEqual(paper_for(program, places), ("not", word, hole, row))


class NoPlacesTold(Case):
    PROGRAM = ((("f", ("a",), ("say", op("+", A, ONE))),), ("do", ("say", op("+", X, ONE)), op("+", Y, ONE), ("say", X)))
    ONE, OTHER = (0, (0,)), (1, (0, 0))

    def refused(self, *places):
        for deed in (pattern_at, paper_for):
            kept = copy.deepcopy(places)
            self.assertIsInstance(refusal(self, NoPlaces, deed, self.PROGRAM, places), LikeError)
            self.assertEqual(repr(places), repr(kept))

    def test_let_by(self):
        for places in ((self.ONE, self.OTHER), ((0, ()), (1, (0,)), (1, (2,))), ((1, (0, 0)), (1, (1,))), ((0, ()), (1, ()))):
            self.assertEqual(len(pattern_at(self.PROGRAM, places)), 2)
            self.assertIn(paper_for(self.PROGRAM, places)[0], ("put", "not"))

    def test_none_and_one(self):
        self.refused()
        for place in places_of(self.PROGRAM, 1):
            self.refused(place)

    def test_twice(self):
        for place in places_of(self.PROGRAM, 1):
            self.refused(place, place)
        self.refused(self.ONE, self.ONE, self.OTHER)
        self.refused(self.ONE, self.OTHER, self.OTHER)
        self.refused(self.ONE, self.OTHER, self.ONE)

    def test_out_of_order(self):
        self.refused(self.OTHER, self.ONE)
        self.refused((1, (1,)), (1, (0,)))
        self.refused((0, (0,)), (1, (1,)), (1, (0,)))
        self.refused((1, (0,)), (1, (1,)), (0, (0,)))

    def test_within_another(self):
        self.refused((0, ()), (0, (0,)))
        self.refused((1, (0,)), (1, (0, 0, 1)))
        self.refused((0, (0,)), (1, ()), (1, (2,)))
        self.refused((0, ()), (0, (0, 0)), (1, (0,)))
        self.refused((1, (0,)), (1, (0, 0)), (1, (1,)))
        # Behind the one within it another one stands.
        self.refused((1, ()), (1, (0, 0)), (1, (1,)))

    def test_any_other_thing(self):
        things = NO_TREES + (("take",), (2, ()), (-1, ()), (0, (1,)), (0, (0, 0, 0, 0)), (0, (-1,)), (True, ()), (False, ()),
                             (0, (True,)), (0, (False,)), [0, (0,)], (0, [0]), (0, 0), (0, (0,), 0), (0,), ("0", ()), (0, ("0",)),
                             (0, (None,)), (0, ((),)), (None, (0,)), 10 ** 59, (0, (10 ** 59,)), (10 ** 59, ()), nested((0, ()), 40))
        for thing in things:
            self.refused(thing, self.OTHER)
            self.refused(self.ONE, thing)
            self.refused(self.ONE, thing, self.OTHER)
            self.refused(thing, thing)
            self.refused(thing)

    def test_against_a_plain_look(self):
        rng = random.Random(311)
        seen = {}
        for program in some_programs(312, 60):
            pool = list(places_of(program, 1)) + [(0, (9,)), (True, ()), None]
            for again in range(12):
                places = tuple(rng.choice(pool) for at in range(rng.randint(0, 3)))
                if rng.random() < 0.6 and not {None, (True, ())} & set(places):
                    places = tuple(sorted(places))
                right = len(places) > 1 and all(place in pool[:-3] and isinstance(place[0], int) for place in places)
                right = right and not any(place is pool[-2] for place in places)
                right = right and list(places) == sorted(places) and all(is_apart(place, places[:at]) for at, place in enumerate(places))
                try:
                    pattern_at(program, places)
                except NoPlaces:
                    self.assertFalse(right, places)
                    refusal(self, NoPlaces, paper_for, program, places)
                else:
                    self.assertTrue(right, places)
                    paper_for(program, places)
                seen[right] = seen.get(right, 0) + 1
        self.assertGreater(min(seen[True], seen[False]), 50)


class Pattern(Case):
    def test_the_most_shared_one(self):
        program, places = beside(("say", op("*", X, FIVE)), ("say", op("*", Y, TWO)), ("say", op("*", X, TWO)))
        self.at(program, places, ("say", op("*", H0, H1)), (X, FIVE), (Y, TWO), (X, TWO))
        self.is_put(program, places, *[(STILL, STILL)] * 3)

    def test_no_hole(self):
        e = ("let", "k", TAKE, ("say", op("*", ("name", "k"), X)))
        program, places = beside(e, ("let", "m", TAKE, ("say", op("*", ("name", "m"), X))))
        self.at(program, places, ("let", TAKE, ("say", op("*", OWN, X))), (), ())
        self.is_put(program, places, (), ())

    def test_one_hole_for_what_is_alike_everywhere(self):
        program, places = beside(("do", X, Y, X, ONE), ("do", Y, X, Y, ONE), ("do", X, X, X, ONE))
        self.at(program, places, ("do", H0, H1, H0, ONE), (X, Y), (Y, X), (X, X))

    def test_a_name_that_is_local_at_one_place_alone(self):
        same = op("+", X, ONE)
        program = ((), ("do", same, ("let", "x", TAKE, same)))
        self.at(program, ((0, (0,)), (0, (1, 1))), op("+", H0, ONE), (X,), (X,))
        self.is_put(program, ((0, (0,)), (0, (1, 1))), (STILL,), (STILL,))
        program = ((("f", ("x",), same),), ("do", same, ("call", "f", TWO)))
        self.at(program, ((0, ()), (1, (0,))), op("+", H0, ONE), (X,), (X,))
        self.is_put(program, ((0, ()), (1, (0,))), (STILL,), (STILL,))
        program = ((("f", (), same), ("g", ("x",), same)), ("do", same, ("call", "g", TWO)))
        self.at(program, ((0, ()), (1, ()), (2, (0,))), op("+", H0, ONE), (X,), (X,), (X,))
        self.at(program, ((0, ()), (2, (0,))), op("+", X, ONE), (), ())

    def test_a_name_that_is_local_everywhere(self):
        same = op("+", X, ONE)
        program = ((), ("let", "x", TAKE, ("do", same, same)))
        self.at(program, ((0, (1, 0)), (0, (1, 1))), op("+", H0, ONE), (X,), (X,))
        program = ((("f", ("x",), same), ("g", ("y", "x"), same)), ("let", "x", ("call", "f", TAKE), ("do", same)))
        self.at(program, ((0, ()), (1, ()), (2, (1, 0))), op("+", H0, ONE), (X,), (X,), (X,))
        self.is_put(program, ((0, ()), (1, ()), (2, (1, 0))), (STILL,), (STILL,), (STILL,))

    def test_a_param_that_is_local_where_it_does_not_stand(self):
        program = ((("f", ("y", "x"), ("say", op("+", X, Z))),), ("do", ("say", op("+", X, Z)), ("let", "z", ONE, ("say", op("+", X, Z)))))
        self.at(program, ((0, ()), (1, (0,))), ("say", op("+", H0, Z)), (X,), (X,))
        self.at(program, ((1, (0,)), (1, (1, 1))), ("say", op("+", X, H0)), (Z,), (Z,))
        self.at(program, ((0, ()), (1, (0,)), (1, (1, 1))), ("say", op("+", H0, H1)), (X, Z), (X, Z), (X, Z))

    def test_one_hole_for_each_local_name(self):
        same = ("do", X, Y, X, Z, Y, X)
        program = ((("f", ("x",), same),), ("let", "y", TAKE, same))
        self.at(program, ((0, ()), (1, (1,))), ("do", H0, H1, H0, Z, H1, H0), (X, Y), (X, Y))
        self.is_put(program, ((0, ()), (1, (1,))), (STILL, STILL), (STILL, STILL))

    def test_local_names_and_other_holes_are_numbered_as_they_stand(self):
        program = ((("f", ("x",), ("do", ONE, X, Y, ONE, X)),), ("let", "y", TAKE, ("do", TWO, X, Y, TWO, X)))
        self.at(program, ((0, ()), (1, (1,))), ("do", H0, H1, H2, H0, H1), (ONE, X, Y), (TWO, X, Y))
        program = ((("f", ("x",), ("do", Y, X, ONE, X)),), ("do", Y, X, TWO, X))
        self.at(program, ((0, ()), (1, ())), ("do", Y, H0, H1, H0), (X, ONE), (X, TWO))

    def test_a_name_that_is_bound_within_the_piece_is_not_local(self):
        e = ("let", "x", TAKE, op("+", X, ONE))
        program = ((("f", ("x",), e),), e)
        self.at(program, ((0, ()), (1, ())), ("let", TAKE, op("+", OWN, ONE)), (), ())

    def test_a_hole_that_stands_twice_and_is_not_still_at_one_place(self):
        program, places = beside(op("+", X, X), op("+", TAKE, TAKE), op("+", ONE, ONE))
        self.at(program, places, op("+", H0, H1), (X, X), (TAKE, TAKE), (ONE, ONE))
        self.is_put(program, places, (STILL, STILL), (ONCE, ONCE), (STILL, STILL))
        program, places = beside(op("+", X, X), op("+", Y, Y), op("+", ONE, ONE))
        self.at(program, places, op("+", H0, H0), (X,), (Y,), (ONE,))
        for moving in (("say", X), op("/", ONE, X), op("/", ONE, ("num", 0)), setting("x", ONE)):
            program, places = beside(op("+", moving, moving), op("+", ONE, ONE))
            self.at(program, places, op("+", H0, H1), (moving, moving), (ONE, ONE))

    def test_other_holes_stay_one(self):
        program, places = beside(("do", X, ("say", X), X, ("say", X)), ("do", Y, ONE, Y, ONE))
        self.at(program, places, ("do", H0, H1, H0, H2), (X, ("say", X), ("say", X)), (Y, ONE, ONE))
        self.is_put(program, places, (STILL, ONCE, ONCE), (STILL, STILL, STILL))

    def test_a_filling_that_is_not_still_since_the_pattern_changes_what_it_reads(self):
        program, places = beside(("do", Z, setting("x", ONE), Z), ("do", X, setting("x", ONE), X))
        self.at(program, places, ("do", H0, setting("x", ONE), H1), (Z, Z), (X, X))
        self.is_not(program, places, "clash", 1, 1)
        program, places = beside(("do", Z, setting("y", ONE), Z), ("do", X, setting("y", ONE), X))
        self.at(program, places, ("do", H0, setting("y", ONE), H0), (Z,), (X,))
        changing = ("f", (), setting("x", ONE))
        program = ((changing,), ("do", ("do", Z, ("call", "f"), Z), ("do", X, ("call", "f"), X)))
        self.at(program, ((1, (0,)), (1, (1,))), ("do", H0, ("call", "f"), H1), (Z, Z), (X, X))

    def test_a_filling_that_is_not_still_since_another_one_changes_what_it_reads(self):
        program, places = beside(("do", Z, setting("x", ONE), Z), ("do", X, setting("y", TWO), X))
        self.at(program, places, ("do", H0, H1, H0), (Z, setting("x", ONE)), (X, setting("y", TWO)))
        program, places = beside(("do", Z, setting("z", ONE), Z), ("do", X, setting("y", TWO), X))
        self.at(program, places, ("do", H0, H1, H2), (Z, setting("z", ONE), Z), (X, setting("y", TWO), X))
        self.is_put(program, places, (ONCE, ONCE, ONCE), (STILL, ONCE, STILL))

    def test_a_local_name_that_is_a_box_elsewhere_and_is_changed_there(self):
        one = ("do", X, setting("x", ONE), X)
        program = ((("f", ("x",), ("do", X, setting("y", ONE), X)),), one)
        places = ((0, ()), (1, ()))
        self.at(program, places, ("do", H0, H1, H2), (X, setting("y", ONE), X), (X, setting("x", ONE), X))
        self.is_put(program, places, (STILL, ONCE, STILL), (ONCE, ONCE, ONCE))

    def test_a_name_that_is_held_is_still(self):
        """What is local is no box, whatever boxes are changed."""
        one = ("do", X, setting("y", ONE), X)
        program = ((("f", ("x",), one),), ("do", ("do", Z, setting("y", ONE), Z), setting("x", ("call", "f", TWO))))
        self.at(program, ((0, ()), (1, (0,))), ("do", H0, setting("y", ONE), H0), (X,), (Z,))
        program = ((("f", ("y",), ("do", Y, ("call", "g"), Y)),), ONE)
        changing = ("g", (), setting("y", ONE))
        program = ((changing, ("f", ("y",), ("do", Y, ("call", "g"), Y))), ("do", Z, ("call", "g"), Z))
        self.at(program, ((1, ()), (2, ())), ("do", H0, ("call", "g"), H0), (Y,), (Z,))

    def test_owns_as_they_stand(self):
        program, places = beside(("let", "k", ONE, op("+", ("name", "k"), X)), ("let", "k", ONE, op("+", Y, ("name", "k"))))
        self.at(program, places, ("let", ONE, op("+", H0, H1)), (OWN, X), (Y, OWN))
        self.is_not(program, places, "bound", 0, 0)

    def test_more_than_six_holes(self):
        program, places = beside(("do", ("do", X, X, X, X), ("do", X, X, X, X)), ("do", ("do", TAKE, TAKE, TAKE, TAKE), ("do", TAKE, TAKE, TAKE, TAKE)))
        pattern = ("do", ("do",) + HOLES[:4], ("do",) + HOLES[4:])
        self.at(program, places, pattern, (X,) * 8, (TAKE,) * 8)
        self.is_not(program, places, "many", 8, -1)

    def test_however_deep(self):
        program = ((("f", ("x",), chain(1500)),), ("do", chain(1500), chain(1500)))
        places = ((0, ()), (1, (0,)), (1, (1,)))
        pattern, fillings = pattern_at(program, places)
        self.assertEqual(fillings, ((X,), (X,), (X,)))
        word, paper = paper_for(program, places)
        self.assertEqual((word, paper[4]), ("put", tuple((place, (X,), (STILL,)) for place in places)))
        self.assertIs(lets_put(program, paper), True)
        self.assertIs(is_program(put(program, paper)), True)


class Not(Case):
    def test_hole(self):
        program, places = beside(ONE, TAKE)
        self.is_not(program, places, "hole", 0, -1)
        program, places = beside(("do", TAKE), ("do", TAKE, TAKE), ("do", TAKE))
        self.is_not(program, places, "hole", 0, -1)
        program = ((("f", ("x",), X),), X)
        self.is_not(program, ((0, ()), (1, ())), "hole", 0, -1)
        self.at(program, ((0, ()), (1, ())), H0, (X,), (X,))
        program, places = beside(X, X)
        self.is_put(program, places, (), ())

    def test_many(self):
        for many in range(1, 12):
            ones = tuple(("num", k) for k in range(many))
            twos = tuple(("num", k + 50) for k in range(many))
            program, places = beside(("do", ("do",) + ones[:6], ("do", ONE) + ones[6:]), ("do", ("do",) + twos[:6], ("do", ONE) + twos[6:]))
            if many > 6:
                self.is_not(program, places, "many", many, -1)
            else:
                self.is_put(program, places, (STILL,) * many, (STILL,) * many)

    def test_many_is_counted_with_holes_by_themselves(self):
        program, places = beside(("do", X, X, X, ("do", X, X, X, X)), ("do", TAKE, TAKE, TAKE, ("do", TAKE, TAKE, TAKE, TAKE)))
        self.is_not(program, places, "many", 7, -1)
        program, places = beside(("do", X, X, X, ("do", X, X, X)), ("do", TAKE, TAKE, TAKE, ("do", TAKE, TAKE, TAKE)))
        self.is_put(program, places, (STILL,) * 6, (ONCE,) * 6)

    def test_bound(self):
        k = ("name", "k")
        program, places = beside(("let", "k", ONE, op("+", X, Y)), ("let", "k", ONE, op("+", X, k)), ("let", "k", ONE, op("+", Y, k)))
        self.is_not(program, places, "bound", 1, 1)
        program, places = beside(("let", "k", ONE, op("+", X, ("say", Y))), ("let", "k", ONE, op("+", Y, ("do", k))))
        self.is_not(program, places, "bound", 1, 1)
        # The least hole comes ahead of the least place.
        program, places = beside(("let", "k", ONE, op("+", X, k)), ("let", "k", ONE, op("+", k, Y)))
        self.is_not(program, places, "bound", 0, 1)
        # A let within a filling of its own is closed.
        inner = ("let", "m", TWO, ("name", "m"))
        program, places = beside(("let", "k", ONE, op("+", X, k)), ("let", "k", ONE, op("+", inner, k)))
        self.is_put(program, places, (STILL,), (STILL,))

    def test_once_within_picks_and_agains(self):
        for frame in (lambda e: ("pick", X, e, ONE), lambda e: ("pick", X, ONE, e), lambda e: ("again", 1, e), lambda e: ("again", 3, ("do", e)),
                      lambda e: ("pick", X, ("pick", e, ONE, ONE), ONE)):
            program, places = beside(frame(ONE), frame(TWO), frame(TAKE), frame(("say", ONE)))
            self.is_not(program, places, "once", 0, 2)
            program, places = beside(frame(ONE), frame(TWO))
            self.is_put(program, places, (STILL,), (STILL,))
        program, places = beside(("pick", ONE, ONE, TWO), ("pick", TAKE, ONE, TWO))
        self.is_put(program, places, (STILL,), (ONCE,))

    def test_once_of_the_least_hole(self):
        program, places = beside(("do", ("again", 2, ONE), ("again", 2, TAKE)), ("do", ("again", 2, TAKE), ("again", 2, ONE)))
        self.is_not(program, places, "once", 0, 1)

    def test_clash(self):
        program, places = beside(op("+", TAKE, ONE), op("+", TAKE, TAKE))
        self.is_not(program, places, "clash", 0, 1)
        program, places = beside(("do", ("say", ONE), ONE), ("do", ("say", ONE), TWO), ("do", ("say", ONE), ("say", ONE)))
        self.is_not(program, places, "clash", 0, 2)
        program, places = beside(("do", setting("x", ONE), Z), ("do", setting("x", ONE), X))
        self.is_not(program, places, "clash", 0, 1)
        program, places = beside(("do", X, Z), ("do", X, setting("x", ONE)))
        self.is_not(program, places, "clash", 0, 1)
        program, places = beside(("do", ("say", X), ONE), ("do", ("say", X), op("/", ONE, Y)))
        self.is_not(program, places, "clash", 0, 1)
        program, places = beside(("do", Y, ONE), ("do", Y, op("/", ONE, Y)))
        self.is_put(program, places, (STILL,), (ONCE,))

    def test_clash_of_the_least_hole_and_place(self):
        program, places = beside(("do", ("say", ONE), ONE, ("say", X)), ("do", ("say", ONE), ("say", TWO), ONE), ("do", ("say", ONE), ("say", X), ONE))
        self.is_not(program, places, "clash", 0, 1)

    def test_what_lies_ahead_by_calls(self):
        said = ("f", (), ("say", ONE))
        program = ((said,), ("do", ("do", ("call", "f"), ONE), ("do", ("call", "f"), ("say", TWO))))
        self.is_not(program, ((1, (0,)), (1, (1,))), "clash", 0, 1)
        program = ((said,), ("do", ("do", ("call", "f"), ONE), ("do", ("call", "f"), TAKE)))
        self.is_not(program, ((1, (0,)), (1, (1,))), "clash", 0, 1)
        program = ((said,), ("do", ("do", ("call", "f"), ONE), ("do", ("call", "f"), setting("x", TWO))))
        self.is_put(program, ((1, (0,)), (1, (1,))), (STILL,), (ONCE,))

    def test_the_first_word_of_all_holes(self):
        k = ("name", "k")
        clashing = op("+", ("say", ONE), ("say", X))
        other = op("+", ("say", ONE), TWO)
        # A clash at hole 0, a hole not once at 1, a filling not closed at 2: the first word's hole is told.
        program, places = beside(("let", "k", ONE, ("do", clashing, ("again", 2, TAKE), k)), ("let", "k", ONE, ("do", other, ("again", 2, ONE), ONE)))
        self.is_not(program, places, "bound", 2, 0)
        program, places = beside(("do", clashing, ("again", 2, TAKE)), ("do", other, ("again", 2, ONE)))
        self.is_not(program, places, "once", 1, 0)
        program, places = beside(("do", clashing, ("again", 2, TWO)), ("do", other, ("again", 2, ONE)))
        self.is_not(program, places, "clash", 0, 0)
        # Many holes come ahead of all three, a hole alone ahead of many.
        many = tuple(("do", at) for at in (X, Y, Z, A, B, ("num", 6)))
        others = tuple(("do", ("num", at)) for at in range(10, 16))
        program, places = beside(("let", "k", ONE, ("do", k, ("do",) + many)), ("let", "k", ONE, ("do", ONE, ("do",) + others)))
        self.is_not(program, places, "many", 7, -1)


class Papers(Case):
    def test_names_near_what_is_made_up(self):
        """Functions, params, lets and boxes have the names that come first where names are made up."""
        names = [sign for sign in "abcdefghij"]
        functions = tuple((name, (), ONE) for name in names[:3])
        main = ("let", "d", TAKE, ("do", setting("e", A), ("do", op("+", ("name", "d"), B), ("name", "c")), ("do", op("+", ("name", "f"), B), ("name", "c"))))
        program = (functions, ("do", main, ("call", "a"), ("call", "b"), ("call", "c")))
        places = ((3, (0, 1, 1)), (3, (0, 1, 2)))
        self.at(program, places, ("do", op("+", H0, B), ("name", "c")), (("name", "d"),), (("name", "f"),))
        self.is_put(program, places, (STILL,), (STILL,))
        for shift in range(len(names)):
            boxes = [("name", name) for name in names[shift:] + names[:shift]]
            pieces = [("do", setting(boxes[0][1], boxes[1]), boxes[2], k, boxes[3], j) for k, j in ((ONE, TWO), (TWO, boxes[4]), (boxes[5], boxes[6]))]
            program = (tuple((name, (), ONE) for name in names[:shift]), ("do",) + tuple(pieces))
            places = tuple((shift, (at,)) for at in range(3))
            self.is_put(program, places, *[(STILL, STILL)] * 3)

    def test_many_functions(self):
        functions = tuple((name, (), ONE) for name in "abcdefghijklmnopqrstuvwxyz")
        program = (functions, ("do", ("say", X), ("say", Y)))
        self.is_put(program, ((26, (0,)), (26, (1,))), (STILL,), (STILL,))

    def test_words_of_the_tongue_are_no_names(self):
        """So many functions stand there that the next texts of two letters are do and op."""
        letters = "abcdefghijklmnopqrstuvwxyz"
        names = list(letters) + [one + other for one in letters for other in letters]
        for word in ("do", "op"):
            functions = tuple((name, (), ONE) for name in names[:names.index(word)] if name != "do")
            program = (functions, ("do", ("say", X), ("say", Y)))
            places = ((len(functions), (0,)), (len(functions), (1,)))
            self.is_put(program, places, (STILL,), (STILL,))

    def test_calls_within_the_pieces(self):
        f = ("f", ("x",), op("+", X, ONE))
        g = ("g", ("y",), ("say", ("call", "f", Y)))
        h = ("h", ("z",), ("do", ("call", "g", Z), ("say", ("call", "f", ("call", "g", Z)))))
        program = ((f, g, h), ("do", ("say", ("call", "f", TAKE)), ("call", "h", ONE), ("call", "g", TWO), ("say", ("call", "f", ONE))))
        found = self.is_put(program, ((1, ()), (2, (1,)), (3, (0,)), (3, (3,))), (STILL,), (ONCE,), (ONCE,), (STILL,))
        self.assertEqual(len(found[0]), 4)
        self.is_put(program, ((2, (0,)), (2, (1, 0, 0))), (STILL,), (STILL,))
        self.is_put(program, ((2, (0,)), (3, (2,))), (STILL,), (STILL,))
        self.is_put(program, ((3, (0,)), (3, (3,))), (ONCE,), (STILL,))

    def test_calls_within_the_fillings(self):
        f = ("f", ("x",), ("say", X))
        g = ("g", (), ("say", TWO))
        program = ((f, g), ("do", op("*", ("call", "f", ONE), TWO), op("*", ("call", "g"), TWO), op("*", ("call", "f", TWO), TWO)))
        self.is_put(program, ((2, (0,)), (2, (1,))), (ONCE,), (ONCE,))
        program = ((f, ("k", (), op("*", ONE, TWO)), g), ("do", op("*", ("call", "g"), TWO), ("call", "k")))
        self.is_put(program, ((1, ()), (3, (0,))), (STILL,), (ONCE,))

    def test_still_and_once_in_one_paper(self):
        program, places = beside(op("-", op("*", X, TAKE), TWO), op("-", op("*", TAKE, TWO), ("say", ONE)), op("-", op("*", ONE, TWO), TAKE))
        self.at(program, places, op("-", op("*", H0, H1), H2), (X, TAKE, TWO), (TAKE, TWO, ("say", ONE)), (ONE, TWO, TAKE))
        self.is_put(program, places, (STILL, ONCE, STILL), (ONCE, STILL, ONCE), (STILL, STILL, ONCE))

    def test_faults(self):
        program, places = beside(("say", op("/", ("num", 8), TAKE)), ("say", op("/", ("num", 9), TAKE)))
        found = self.is_put(program, places, (STILL,), (STILL,))
        self.assertEqual(run(found, ())[0], ("fault", "dry"))
        self.assertEqual(run(found, (2, 0)), (("fault", "nought"), (4,), (), 2))

    def test_a_second_function_in_what_came_of_the_first(self):
        main = ("do", ("say", op("+", op("*", X, ONE), TWO)), ("say", op("+", op("*", Y, ONE), FIVE)), setting("x", op("*", Z, ONE)), ("say", op("+", op("*", Z, TWO), X)))
        program = ((), main)
        found = self.is_put(program, ((0, (0, 0, 0)), (0, (1, 0, 0)), (0, (2, 0))), (STILL,), (STILL,), (STILL,))
        places = ((1, (0,)), (1, (1,)))
        second = self.is_put(found, places, (STILL, STILL), (STILL, STILL))
        self.assertEqual(len(second[0]), 2)
        third = self.is_put(found, ((1, (0,)), (1, (1,)), (1, (3,))), *[(STILL, STILL)] * 3)
        for row in INPUTS:
            self.assertEqual(run(second, row), run(program, row))
            self.assertEqual(run(third, row), run(program, row))


def varied(rng, e):
    """The expression with some of its leaves changed."""
    if kids(e):
        return with_kids(e, [varied(rng, kid) for kid in kids(e)])
    return rng.choice((e, e, X, Y, ONE, TAKE)) if e[0] != "call" else e


class ByChance(Case):
    def groups(self, rng, program):
        """Some tuples of places: of pieces headed alike, of alike ones, of any."""
        told = [tuple(sorted(some_places(rng, program, 0, rng.randint(2, 4)))) for again in range(3)]
        told += [places for shape, places in table(program, rng.choice((1, 2, 3)))]
        found = []
        for place in sorted(rng.sample(places_of(program, 1), min(3, len(places_of(program, 1))))):
            found += [place] if is_apart(place, found) else []
        return [places for places in told + [tuple(found)] if len(places) > 1]

    def test_against_a_plain_second_way(self):
        rng = random.Random(313)
        seen = {}
        programs = some_programs(314, 120) + some_programs(315, 120, names=("a", "x")) + some_programs(316, 60, most_deep=5)
        for program in programs:
            groups = [(program, places) for places in self.groups(rng, program)]
            twice = (program[0], ("do", program[1], varied(rng, program[1]), varied(rng, program[1])))
            last = len(program[0])
            groups.append((twice, ((last, (0,)), (last, (1,)), (last, (2,)))))
            for program, places in groups:
                self.assertEqual(pattern_at(program, places), plain_pattern(program, places), (program, places))
                expected = plain_answer(program, places)
                seen[expected[0] if expected[0] == "put" else expected[1]] = True
                if expected[0] == "not":
                    self.is_not(program, places, *expected[1:])
                else:
                    self.is_put(program, places, *expected[1])
        self.assertEqual(sorted(seen), ["bound", "clash", "hole", "many", "once", "put"])

    def test_one_function_behind_another(self):
        rng = random.Random(317)
        many = 0
        for program in some_programs(318, 60):
            if work(program) > 1000:
                continue
            found = program
            for again in range(4):
                groups = [places for places in self.groups(rng, found) if plain_answer(found, places)[0] == "put"]
                if groups:
                    places = rng.choice(groups)
                    found = self.is_put(found, places, *plain_answer(found, places)[1])
                    many += 1
            for row in INPUTS:
                self.assertEqual(run(found, row), run(program, row))
        self.assertGreater(many, 100)


if __name__ == "__main__":
    unittest.main()
