"""[3], [11]: shapes and likeness."""

import itertools
import random
import unittest

from likepieces.bares import named, same
from likepieces.likes import alike, shape
from likepieces.names import exchanged, free_names
from likepieces.trees import nodes
from tests.samples import (
    OF_EVERY_WORD, ONE, X, Y, kids, let_chain, plain_bare, plain_free, renamed_bare, some_expressions, with_kids,
)

Z = ("name", "z")


def samples():
    return list(OF_EVERY_WORD.values()) + some_expressions(311, 200)


def plain_shape(e):
    """The shape, out of the plain bare form."""
    numbers = plain_free(e)

    def shaped(b):
        inner = [shaped(kid) for kid in kids(b)]
        if b[0] == "name":
            return ("free", numbers.index(b[1]))
        if b[0] == "set":
            return ("set", numbers.index(b[1]), inner[0])
        return with_kids(b, inner)

    return shaped(plain_bare(e))


class Shapes(unittest.TestCase):
    def test_names_and_sets(self):
        self.assertEqual(shape(X), ("free", 0))
        self.assertEqual(shape(("set", "x", ONE)), ("set", 0, ONE))
        self.assertEqual(shape(("set", "x", X)), ("set", 0, ("free", 0)))
        self.assertEqual(shape(("set", "x", Y)), ("set", 0, ("free", 1)))
        self.assertEqual(shape(("op", "+", Y, ("set", "x", Y))), ("op", "+", ("free", 0), ("set", 1, ("free", 0))))
        self.assertEqual(
            shape(("do", Z, Y, Z, X)), ("do", ("free", 0), ("free", 1), ("free", 0), ("free", 2)),
        )

    def test_lets(self):
        self.assertEqual(shape(("let", "x", X, X)), ("let", ("free", 0), ("own", 0)))
        self.assertEqual(
            shape(("let", "x", Y, ("let", "y", X, ("do", X, Y, Z)))),
            ("let", ("free", 0), ("let", ("own", 0), ("do", ("own", 1), ("own", 0), ("free", 1)))),
        )
        self.assertEqual(
            shape(("do", ("let", "x", ONE, X), X)), ("do", ("let", ONE, ("own", 0)), ("free", 0)),
        )

    def test_a_calls_name_stays(self):
        self.assertEqual(shape(("call", "x", Y, X)), ("call", "x", ("free", 0), ("free", 1)))
        self.assertEqual(shape(("call", "f")), ("call", "f"))

    def test_all_else_stays(self):
        e = ("pick", ("num", 5), ("take",), ("again", 2, ("say", ("op", "<", ONE, ONE))))
        self.assertEqual(shape(e), e)

    def test_samples(self):
        for e in samples():
            self.assertEqual(shape(e), plain_shape(e))
            self.assertIs(type(shape(e)), tuple)
            self.assertEqual(nodes(shape(e)), nodes(e))


class Alike(unittest.TestCase):
    def test_the_pairs_in_order(self):
        one = ("op", "+", Y, ("set", "x", Z))
        other = ("op", "+", ("name", "b"), ("set", "c", X))
        self.assertEqual(alike(one, other), (("y", "b"), ("x", "c"), ("z", "x")))
        self.assertEqual(alike(other, one), (("b", "y"), ("c", "x"), ("x", "z")))
        self.assertEqual(alike(one, one), (("y", "y"), ("x", "x"), ("z", "z")))
        self.assertEqual(alike(("op", "+", X, Y), ("op", "+", Y, X)), (("x", "y"), ("y", "x")))

    def test_no_free_names(self):
        self.assertEqual(alike(ONE, ONE), ())
        self.assertEqual(alike(("let", "x", ONE, X), ("let", "y", ONE, Y)), ())
        self.assertEqual(alike(("call", "f"), ("call", "f")), ())

    def test_unlike(self):
        for one, other in (
            (ONE, ("num", 2)), (ONE, X), (ONE, ("take",)), (X, ("call", "x")), (("call", "f"), ("call", "g")),
            (("call", "f", X), ("call", "g", X)), (("call", "f", X), ("call", "f", X, X)), (("do", X), ("do", X, X)),
            (("do", X), ("say", X)), (("op", "+", X, Y), ("op", "-", X, Y)), (("again", 1, X), ("again", 2, X)),
            (("op", "+", X, Y), ("op", "+", X, X)), (("op", "+", X, X), ("op", "+", X, Y)),
            (("set", "x", X), ("set", "x", Y)), (("let", "x", ONE, X), ("let", "x", ONE, Y)),
            (("let", "x", X, X), ("let", "x", Y, ONE)), (("do", X, Y, X), ("do", X, Y, Y)),
            (("do", ("do", X), X), ("do", ("do", X, X))), (X, ("set", "x", ONE)),
            (("let", "x", ONE, ("let", "y", ONE, X)), ("let", "x", ONE, ("let", "y", ONE, Y))),
        ):
            self.assertIsNone(alike(one, other), (one, other))
            self.assertIsNone(alike(other, one), (one, other))

    def test_with_other_names(self):
        for e in samples():
            free = plain_free(e)
            for seconds in (tuple(name + "o" for name in free), free[::-1], free[1:] + free[:1]):
                pairs = tuple(zip(free, seconds))
                other = named(renamed_bare(plain_bare(e), dict(pairs)), ())
                self.assertEqual(alike(e, other), pairs)
                self.assertEqual(alike(other, e), tuple((y, x) for x, y in pairs))
                self.assertIs(same(exchanged(e, pairs), other), True)
                self.assertEqual(shape(e), shape(other))

    def test_told_alike_just_where_some_exchange_makes_it_so(self):
        rng = random.Random(33)
        few = [e for e in some_expressions(32, 400, 3, ("x", "y", "z")) if 2 <= nodes(e) <= 5]
        tops = {}
        for e in few:
            tops.setdefault((e[0], nodes(e)), []).append(e)
        seen = {True: 0, False: 0}
        for group in tops.values():
            for one, other in itertools.product(rng.sample(group, min(len(group), 14)), repeat=2):
                told = alike(one, other)
                self.assertEqual(told is not None, self.some_exchange(one, other), (one, other))
                seen[told is not None] += 1
                if told is not None:
                    self.assertEqual([x for x, y in told], list(free_names(one)))
                    self.assertEqual([y for x, y in told], list(free_names(other)))
                    self.assertIs(same(exchanged(one, told), other), True)
        self.assertGreater(min(seen.values()), 100)

    def some_exchange(self, one, other):
        """Whether by some one to one exchange of the free names the one becomes the other one."""
        free, seconds = plain_free(one), plain_free(other)
        return len(free) == len(seconds) and any(
            renamed_bare(plain_bare(one), dict(zip(free, order))) == plain_bare(other)
            for order in itertools.permutations(seconds)
        )

    def test_great_ones(self):
        self.assertEqual(alike(let_chain(3000), exchanged(let_chain(3000), (("x", "y"),))), (("x", "y"),))
        self.assertIsNone(alike(let_chain(3000), let_chain(2999)))


if __name__ == "__main__":
    unittest.main()
