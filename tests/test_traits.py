"""[24], [25], [26]: traits, quiet and apart, holes that stand once for all and what lies ahead of them."""

import itertools
import random
import unittest

from likepieces.bares import bare
from likepieces.runs import done
from likepieces.traits import ahead_of, are_apart, is_quiet, stands_once, traits
from tests.papers import plain_ahead, plain_once, plain_traits, some_pattern
from tests.samples import NAMES, ONE, X, Y, chain, mended, plain_bare, some_expression, some_programs

NOTHING = ((), (), False, False, False)
NONE = ((), ONE)
TAKE = ("take",)
Z = ("name", "z")
H0, H1, H2 = ("hole", 0), ("hole", 1), ("hole", 2)


def op(sign, one, other):
    return ("op", sign, one, other)


def quotient(b):
    return op("/", ONE, b)


class Traits(unittest.TestCase):
    def traits(self, b, reads="", changes="", flags="", held=(), functions=()):
        """The traits of b; names as a text with blanks between, flags as letters of s, t, f."""
        told = (tuple(reads.split()), tuple(changes.split()), "s" in flags, "t" in flags, "f" in flags)
        found = traits((functions, ONE), b, held)
        self.assertEqual(found, told, b)
        self.assertEqual([type(thing) for thing in found], [tuple, tuple, bool, bool, bool])

    def test_each_word(self):
        self.traits(ONE)
        self.traits(X, "x")
        self.traits(("own", 0))
        self.traits(("own", 10 ** 20))
        self.traits(H0)
        self.traits(("hole", 7))
        self.traits(("set", "x", ONE), "", "x")
        self.traits(("say", ONE), "", "", "s")
        self.traits(TAKE, "", "", "tf")
        for sign in "+-*<=":
            self.traits(op(sign, X, ("num", 0)), "x")
        self.traits(("pick", X, Y, Z), "x y z")
        self.traits(("do", X, ("do", Y), Z), "x y z")
        self.traits(("again", 0, ("say", X)), "x", "", "s")
        self.traits(("again", 3, ("set", "a", X)), "x", "a")
        self.traits(("let", X, ("own", 0)), "x")
        self.traits(("let", X, Y), "x y")

    def test_reads_each_once_sorted(self):
        self.traits(("do", Z, X, ("name", "ab"), Y, X, Z, ("name", "aa")), "aa ab x y z")
        self.traits(("do", ("set", "z", X), ("set", "a", ONE), ("set", "z", ONE), ("set", "b", Z)), "x z", "a b z")

    def test_a_set_is_no_read_and_a_read_no_change(self):
        self.traits(("set", "x", Y), "y", "x")
        self.traits(("set", "x", X), "x", "x")

    def test_held(self):
        self.traits(op("+", X, Y), "y", held=("x",))
        self.traits(op("+", X, Y), held=("a", "y", "x"))
        self.traits(("set", "y", X), "", "y", held=("x",))
        self.traits(("do", X, ("say", X)), "", "", "s", held=("x",))

    def test_quotients(self):
        for k in (1, 2, 999999999):
            self.traits(quotient(("num", k)))
        for b in (("num", 0), ("own", 0), H0, op("+", ONE, ONE), ("do", ONE), ("let", ONE, ONE), ("again", 1, ONE), ("pick", ONE, ONE, ONE)):
            self.traits(quotient(b), "", "", "f")
        self.traits(quotient(X), "x", "", "f")
        self.traits(quotient(quotient(ONE)), "", "", "f")
        self.traits(op("/", quotient(("num", 0)), ONE), "", "", "f")
        self.traits(op("/", X, ("num", 2)), "x")
        self.traits(quotient(X), "", "", "f", held=("x",))
        self.traits(op("+", ONE, ("do", ("say", quotient(("num", 0))))), "", "", "sf")

    def test_calls(self):
        f = ("f", ("x",), ("do", X, Y, ("set", "z", X)))
        g = ("g", ("y", "z"), op("+", ("call", "f", Y), Z))
        h = ("h", (), ("do", ("say", X), ("call", "g", TAKE, ONE)))
        self.traits(("call", "f", ONE), "y", "z", functions=(f, g, h))
        self.traits(("call", "f", X), "x y", "z", functions=(f, g, h))
        self.traits(("call", "g", ONE, ONE), "y", "z", functions=(f, g, h))
        self.traits(("call", "h"), "x y", "z", "stf", functions=(f, g, h))
        self.traits(ONE, functions=(f, g, h))

    def test_calls_have_their_own_params_held(self):
        f = ("f", ("x",), op("+", X, Y))
        self.traits(("call", "f", ONE), "y", held=("y",), functions=(f,))
        self.traits(("call", "f", Y), "y", held=("y", "x"), functions=(f,))
        self.traits(("do", ("call", "f", ONE), X), "x y", functions=(f,))
        g = ("g", ("y",), ("call", "f", Y))
        self.traits(("call", "g", ONE), "y", functions=(f, g))

    def test_calls_of_bodies_with_lets(self):
        f = ("f", (), ("let", "x", Y, op("/", X, ("let", "y", ONE, Y))))
        self.traits(("call", "f"), "y", "", "f", functions=(f,))
        g = ("g", (), ("let", "x", X, ("let", "y", X, op("+", X, Y))))
        self.traits(("call", "g"), "x", functions=(g,))

    def test_bound_names_read_nothing(self):
        self.traits(bare(("let", "x", Y, op("+", X, Z))), "y z")
        self.traits(bare(("let", "x", X, ("let", "y", X, op("+", X, Y)))), "x")

    def test_like_a_second_way(self):
        rng = random.Random(31)
        for program in some_programs(32, 200):
            counts = {name: len(params) for name, params, body in program[0]}
            for at in range(5):
                b = plain_bare(mended(rng, some_expression(rng, rng.randint(2, 5)), counts))
                held = tuple(rng.sample(NAMES, rng.randint(0, 3)))
                self.assertEqual(traits(program, b, held), plain_traits(program, b, held))

    def test_however_deep(self):
        self.traits(chain(5000), "x")
        self.traits(("say", chain(5000)), "x", "", "s")

    def test_nothing_else_is_changed_or_hung_on(self):
        """What is done changes no box but its changes, says and takes only so, and hangs on no box but its reads."""
        rng = random.Random(33)
        for program in some_programs(34, 150):
            counts = {name: len(params) for name, params, body in program[0]}
            for at in range(3):
                e = mended(rng, some_expression(rng, 4), counts)
                reads, changes, says, takes, fails = traits(program, bare(e), ())
                boxes = {x: rng.randint(1, 4) for x in NAMES}
                other = {x: v if x in reads else rng.randint(1, 4) for x, v in boxes.items()}
                inputs = tuple(rng.randint(0, 3) for at in range(rng.randint(0, 4)))
                one = done(program, e, (), tuple(boxes.items()), inputs)
                two = done(program, e, (), tuple(other.items()), inputs)
                self.assertEqual((one[0], one[1], one[3]), (two[0], two[1], two[3]))
                for x in NAMES:
                    if x not in changes:
                        self.assertEqual(dict(one[2])[x], boxes[x])
                self.assertTrue(says or one[1] == ())
                self.assertTrue(takes or one[3] == 0)
                self.assertTrue(fails or one[0][0] == "value")


class QuietAndApart(unittest.TestCase):
    def test_quiet(self):
        for reads in ((), ("x",), ("x", "y")):
            self.assertIs(is_quiet((reads, (), False, False, False)), True)
            self.assertIs(is_quiet((reads, ("x",), False, False, False)), False)
            self.assertIs(is_quiet((reads, (), True, False, False)), False)
            self.assertIs(is_quiet((reads, (), False, True, False)), False)
            self.assertIs(is_quiet((reads, (), False, False, True)), False)
            self.assertIs(is_quiet((reads, ("y",), True, True, True)), False)

    def both(self, told, one, other):
        self.assertIs(are_apart(one, other), told)
        self.assertIs(are_apart(other, one), told)

    def test_apart(self):
        reads_x, changes_x = (("x",), (), False, False, False), ((), ("x",), False, False, False)
        self.both(True, NOTHING, NOTHING)
        self.both(True, reads_x, reads_x)
        self.both(False, reads_x, changes_x)
        self.both(False, changes_x, changes_x)
        self.both(True, changes_x, ((), ("y",), False, False, False))
        self.both(True, changes_x, (("y",), ("z",), False, False, False))
        self.both(False, (("a", "x"), ("b", "y"), False, False, False), (("c", "y"), ("d",), False, False, False))
        self.both(False, (("a", "x"), ("b", "y"), False, False, False), (("c",), ("d", "y"), False, False, False))
        self.both(True, (("a", "x"), ("b", "y"), False, False, False), (("c", "x"), ("d", "z"), False, False, False))

    def test_apart_by_says_and_takes(self):
        says, takes = ((), (), True, False, False), ((), (), False, True, False)
        self.both(False, says, says)
        self.both(False, takes, takes)
        self.both(True, says, takes)
        self.both(True, says, NOTHING)
        self.both(True, takes, NOTHING)

    def test_apart_where_one_fails(self):
        fails = ((), (), False, False, True)
        self.both(False, fails, fails)
        self.both(True, fails, NOTHING)
        self.both(True, fails, (("x", "y"), (), False, False, False))
        self.both(False, fails, ((), ("x",), False, False, False))
        self.both(False, fails, ((), (), True, False, False))
        self.both(False, fails, ((), (), False, True, False))
        self.both(True, (("x",), (), False, False, True), (("x",), (), False, False, False))
        self.both(False, ((), ("x",), False, False, True), (("x",), (), False, False, False))

    def test_all_traits(self):
        names = ((), ("x",), ("y",), ("x", "y"))
        flags = list(itertools.product((False, True), repeat=3))
        every = [(reads, changes) + three for reads in names for changes in names for three in flags]
        for one in every:
            self.assertIs(is_quiet(one), one[1:] == NOTHING[1:])
            for other in every:
                crossed = set(one[1]) & set(other[0] + other[1]) or set(other[1]) & set(one[0] + one[1])
                failing = (one[4] and other[1:] != NOTHING[1:]) or (other[4] and one[1:] != NOTHING[1:])
                told = not (crossed or one[2] and other[2] or one[3] and other[3] or failing)
                self.assertIs(are_apart(one, other), told)

    def test_in_which_order_two_that_are_apart_are_done(self):
        rng = random.Random(35)
        many = 0
        for program in some_programs(36, 300):
            counts = {name: len(params) for name, params, body in program[0]}
            for at in range(4):
                one, other = [mended(rng, some_expression(rng, rng.randint(2, 3)), counts) for two in range(2)]
                if not are_apart(traits(program, bare(one), ()), traits(program, bare(other), ())):
                    continue
                many += 1
                boxes = tuple((x, rng.randint(0, 4)) for x in NAMES)
                inputs = tuple(rng.randint(0, 3) for at in range(rng.randint(0, 4)))
                ahead = done(program, ("let", "k", one, ("let", "m", other, op("+", ("name", "k"), op("*", ("name", "m"), ("num", 1000))))), (), boxes, inputs)
                behind = done(program, ("let", "m", other, ("let", "k", one, op("+", ("name", "k"), op("*", ("name", "m"), ("num", 1000))))), (), boxes, inputs)
                self.assertEqual(ahead, behind, (one, other))
        self.assertGreater(many, 300)


class Holes(unittest.TestCase):
    def once(self, told, pattern, i=0):
        self.assertIs(stands_once(pattern, i), told, pattern)

    def test_it_stands_just_once(self):
        self.once(True, H0)
        self.once(True, op("+", H0, H1))
        self.once(True, op("+", H0, H1), 1)
        self.once(False, op("+", H0, H0))
        self.once(False, ("do", H0, H1, ("say", H0)))
        self.once(True, ("do", H0, H1, ("say", H0)), 1)
        self.once(False, ONE)
        self.once(False, H0, 1)

    def test_beneath_each_part_of_a_pick(self):
        pattern = ("pick", H0, H1, H2)
        self.once(True, pattern, 0)
        self.once(False, pattern, 1)
        self.once(False, pattern, 2)
        deeper = ("pick", ("say", ("pick", H0, H1, ONE)), ("do", H2), X)
        self.once(True, deeper, 0)
        self.once(False, deeper, 1)
        self.once(False, deeper, 2)
        self.once(False, ("pick", X, ("pick", H0, X, X), X))
        self.once(True, ("do", ("pick", X, X, X), H0))

    def test_beneath_an_again(self):
        for times in range(6):
            self.once(False, ("again", times, H0))
            self.once(False, ("say", ("again", times, op("+", ONE, H0))))
            self.once(True, op("+", ("again", times, ONE), H0))

    def test_beneath_all_others(self):
        for pattern in (("set", "x", H0), ("say", H0), ("call", "f", ONE, H0), ("call", "f", H0), ("let", H0, ("own", 0)), ("let", ONE, H0),
                        ("do", ONE, X, Y, H0), op("<", ONE, H0), op("/", H0, ONE), ("do", H0), ("say", ("let", ("set", "x", H0), X))):
            self.once(True, pattern)

    def ahead(self, pattern, i, reads="", changes="", flags="", functions=()):
        told = (tuple(reads.split()), tuple(changes.split()), "s" in flags, "t" in flags, "f" in flags)
        self.assertIs(stands_once(pattern, i), True)
        self.assertEqual(ahead_of((functions, ONE), pattern, i), told, pattern)

    def test_nothing_ahead(self):
        self.ahead(H0, 0)
        self.ahead(("say", H0), 0)
        self.ahead(("set", "x", H0), 0)
        self.ahead(op("/", H0, TAKE), 0)
        self.ahead(("pick", H0, ("set", "x", X), ("say", TAKE)), 0)
        self.ahead(("let", H0, ("say", ("own", 0))), 0)
        self.ahead(("call", "f", H0, TAKE), 0)
        self.ahead(("do", ("do", ("say", H0), TAKE), Y), 0)

    def test_what_stands_to_the_left(self):
        self.ahead(op("/", X, H0), 0, "x")
        self.ahead(("do", X, ("say", Y), TAKE, H0, ("set", "z", Z)), 0, "x y", "", "stf")
        self.ahead(("let", ("set", "x", Y), H0), 0, "y", "x")
        self.ahead(("call", "f", ("say", ONE), H0, TAKE), 0, "", "", "s")
        self.ahead(("do", quotient(("num", 0)), ("say", H0)), 0, "", "", "f")

    def test_all_on_the_way_together(self):
        f = ("f", ("y",), ("set", "a", op("+", Y, ("name", "b"))))
        pattern = ("do", Z, op("+", ("say", X), ("let", ("call", "f", Y), ("call", "f", H0))), TAKE)
        self.ahead(pattern, 0, "b x y z", "a", "s", functions=(f,))
        pattern = ("do", Z, ("pick", ("do", X, X, ("set", "q", H0)), TAKE, TAKE))
        self.ahead(pattern, 0, "x z")

    def test_other_holes_count_as_nothing(self):
        self.ahead(("do", H1, op("+", H1, X), H0), 0, "x")
        self.ahead(("do", H0, H1, H2), 2)
        self.ahead(("do", op("/", ONE, H1), H0), 0, "", "", "f")

    def test_nothing_is_held(self):
        f = ("f", ("x",), X)
        self.ahead(("do", X, ("call", "f", Y), H0), 0, "x y", functions=(f,))

    def test_like_a_second_way(self):
        rng = random.Random(37)
        seen = []
        for program in some_programs(38, 300):
            counts = {name: len(params) for name, params, body in program[0]}
            e = mended(rng, some_expression(rng, 5), counts)
            pattern, fillings = some_pattern(rng, [plain_bare(e)], (), 0.2)
            for i in range(len(fillings[0])):
                told = plain_once(pattern, i)
                self.assertIs(stands_once(pattern, i), told)
                seen.append(told)
                if told:
                    self.assertEqual(ahead_of(program, pattern, i), plain_ahead(program, pattern, i))
        self.assertGreater(seen.count(True), 50)
        self.assertGreater(seen.count(False), 50)

    def test_however_deep(self):
        pattern = H0
        for at in range(3000):
            pattern = ("do", X, pattern)
        self.once(True, pattern)
        self.ahead(pattern, 0, "x")


if __name__ == "__main__":
    unittest.main()
