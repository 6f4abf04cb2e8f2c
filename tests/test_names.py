"""[7], [8]: free names, names bound at a path, exchanges."""

import itertools
import unittest

from likepieces.errors import NoExchange, NoPlace
from likepieces.names import bound_at, exchanged, free_names
from likepieces.trees import is_expression, paths, piece
from tests.samples import (
    NO_TREES, OF_EVERY_WORD, ONE, X, Y, each_path, kids, let_chain, let_list, nested, plain_bare, plain_free, refusal,
    renamed_bare, some_expressions,
)


def samples():
    return list(OF_EVERY_WORD.values()) + some_expressions(78, 250)


class FreeNames(unittest.TestCase):
    def free(self, e, *names):
        self.assertEqual(free_names(e), names)
        self.assertIs(type(free_names(e)), tuple)

    def test_none(self):
        self.free(ONE)
        self.free(("take",))
        self.free(("call", "x"))
        self.free(("call", "x", ("num", 3)))
        self.free(("let", "x", ONE, X))
        self.free(("let", "x", ONE, ONE))

    def test_in_the_order_in_which_they_stand_first(self):
        self.free(("op", "+", Y, X), "y", "x")
        self.free(("op", "+", ("op", "-", Y, X), ("op", "*", X, Y)), "y", "x")
        self.free(("do", ("name", "c"), ("name", "b"), ("name", "c"), ("name", "a")), "c", "b", "a")
        self.free(("pick", ("say", ("name", "z")), Y, X), "z", "y", "x")
        self.free(("call", "f", ("name", "z"), X), "z", "x")
        self.free(("again", 0, X), "x")

    def test_a_sets_name_ahead_of_what_stands_in_it(self):
        self.free(("set", "x", Y), "x", "y")
        self.free(("set", "x", ("set", "y", ("name", "z"))), "x", "y", "z")
        self.free(("set", "x", X), "x")
        self.free(("op", "+", Y, ("set", "x", Y)), "y", "x")

    def test_a_let_binds_in_its_second_part_alone(self):
        self.free(("let", "x", X, ONE), "x")
        self.free(("let", "x", X, X), "x")
        self.free(("let", "x", Y, X), "y")
        self.free(("let", "x", ("set", "x", Y), X), "x", "y")
        self.free(("let", "x", ("let", "x", X, X), X), "x")
        self.free(("let", "y", ("let", "x", Y, X), ("op", "+", X, Y)), "y", "x")

    def test_free_and_bound(self):
        self.free(("op", "+", ("let", "x", ONE, X), X), "x")
        self.free(("op", "+", X, ("let", "x", ONE, X)), "x")
        self.free(("do", ("let", "x", ONE, ("let", "x", X, X)), Y, X), "y", "x")
        self.free(("do", ("let", "x", ONE, X), ("set", "x", ONE)), "x")

    def test_samples(self):
        for e in samples():
            self.free(e, *plain_free(e))

    def test_great_ones(self):
        self.free(let_chain(4000), "x")


class BoundAt(unittest.TestCase):
    def test_at_the_paths_of_a_let(self):
        e = ("let", "x", ("say", X), ("say", X))
        told = {path: bound_at(e, path) for path in paths(e)}
        self.assertEqual(told, {(): (), (0,): (), (0, 0): (), (1,): ("x",), (1, 0): ("x",)})

    def test_the_outermost_first_and_a_name_twice(self):
        e = ("let", "x", ONE, ("let", "y", X, ("let", "x", Y, ("op", "+", X, Y))))
        self.assertEqual(bound_at(e, (1,)), ("x",))
        self.assertEqual(bound_at(e, (1, 0)), ("x",))
        self.assertEqual(bound_at(e, (1, 1)), ("x", "y"))
        self.assertEqual(bound_at(e, (1, 1, 0)), ("x", "y"))
        self.assertEqual(bound_at(e, (1, 1, 1)), ("x", "y", "x"))
        self.assertEqual(bound_at(e, (1, 1, 1, 1)), ("x", "y", "x"))

    def test_number_1_of_other_words_binds_nothing(self):
        for e in (("op", "+", ONE, X), ("call", "x", ONE, X), ("do", ONE, X), ("pick", ONE, X, X)):
            self.assertEqual(bound_at(e, (1,)), ())

    def test_at_every_path(self):
        def plain_bound(e, path):
            if path == ():
                return ()
            here = (e[1],) if e[0] == "let" and path[0] == 1 else ()
            return here + plain_bound(kids(e)[path[0]], path[1:])

        for e in samples():
            for path in paths(e):
                self.assertEqual(bound_at(e, path), plain_bound(e, path))
                self.assertIs(type(bound_at(e, path)), tuple)

    def test_paths_that_lead_nowhere(self):
        for e in samples():
            for path in paths(e)[:20]:
                many = len(kids(piece(e, path)))
                for at in (many, many + 3, -1, -many, 10 ** 59, -10 ** 59):
                    for more in ((), (0,), (1, 1)):
                        told = refusal(self, NoPlace, bound_at, e, path + (at,) + more)
                        self.assertEqual(told.place, path + (at,) + more)


class Exchanges(unittest.TestCase):
    def right(self, e, pairs):
        """Exchanged, the expression is as [8] tells; what it is is told."""
        told = exchanged(e, pairs)
        self.assertIs(is_expression(told), True, (e, pairs, told))
        self.assertEqual(plain_bare(told), renamed_bare(plain_bare(e), dict(pairs)), (e, pairs))
        return told

    def refused(self, e, pairs):
        refusal(self, NoExchange, exchanged, e, pairs)

    def test_of_some_names(self):
        e = ("do", X, ("set", "y", X), ("call", "x", Y))
        self.assertEqual(self.right(e, ()), e)
        self.assertEqual(self.right(e, (("x", "c"),)), ("do", ("name", "c"), ("set", "y", ("name", "c")), ("call", "x", Y)))
        self.assertEqual(self.right(e, (("y", "c"),)), ("do", X, ("set", "c", X), ("call", "x", ("name", "c"))))
        self.assertEqual(self.right(e, (("x", "x"), ("y", "y"))), e)

    def test_all_at_once(self):
        e = ("op", "+", X, ("set", "y", ("name", "z")))
        self.assertEqual(self.right(e, (("x", "y"), ("y", "x"))), ("op", "+", Y, ("set", "x", ("name", "z"))))
        told = self.right(e, (("x", "y"), ("y", "z"), ("z", "x")))
        self.assertEqual(told, ("op", "+", Y, ("set", "z", X)))

    def test_of_names_that_stand_nowhere(self):
        e = ("let", "x", ONE, ("op", "+", X, Y))
        for pairs in ((("x", "c"),), (("q", "y"),), (("q", "x"), ("x", "q")), (("b", "c"), ("c", "b"))):
            self.assertEqual(plain_bare(self.right(e, pairs)), plain_bare(e))

    def test_lets_catch_no_name(self):
        e = ("let", "x", Y, ("op", "+", X, Y))
        self.right(e, (("y", "x"),))
        self.right(e, (("y", "x"), ("x", "y")))
        self.right(("let", "x", X, X), (("x", "a"),))
        self.right(("let", "x", ONE, ("let", "y", X, ("do", X, Y, ("name", "z")))), (("z", "x"),))
        self.right(("let", "x", ONE, ("let", "y", X, ("do", X, Y, ("name", "z")))), (("z", "y"),))
        self.right(("let", "x", ONE, ("let", "y", X, ("do", X, ("name", "a"), ("name", "z")))), (("z", "y"), ("a", "x")))

    def test_lets_catch_no_set(self):
        self.right(("let", "x", ONE, ("set", "y", X)), (("y", "x"),))
        self.right(("let", "x", ONE, ("let", "a", X, ("set", "y", X))), (("y", "a"),))

    def test_a_call_keeps_its_name(self):
        self.assertEqual(self.right(("call", "x", X), (("x", "y"),)), ("call", "x", Y))

    def test_samples_by_many_exchanges(self):
        for at, e in enumerate(samples()):
            free = plain_free(e)
            lets = sorted(set(let_list(e)))
            others = tuple(name + "o" for name in free)
            self.right(e, ())
            self.right(e, tuple(zip(free, others)))
            self.right(e, tuple(zip(free[::2], others[::2])))
            self.right(e, tuple(zip(free, free[1:] + free[:1])))
            self.right(e, tuple(zip(free, reversed(free))) + (("nowhere", "never"),))
            into_lets = [name for name in lets if name not in free][: len(free)]
            self.right(e, tuple(zip(free, into_lets)))
            chosen = list(itertools.permutations(("a", "b", "x", "y", "total", "c", "d"), len(free)))[at::997]
            for seconds in chosen:
                self.right(e, tuple(zip(free, seconds)))

    def test_there_and_back(self):
        for e in samples():
            free = plain_free(e)
            pairs = tuple(zip(free, free[1:] + ("x" if "x" not in free else "far",)))
            back = tuple((y, x) for x, y in pairs)
            self.assertEqual(plain_bare(exchanged(self.right(e, pairs), back)), plain_bare(e))

    def test_two_that_would_become_one(self):
        e = ("op", "+", X, ("let", "z", Y, ("name", "z")))
        self.refused(e, (("x", "y"),))
        self.refused(e, (("y", "x"),))
        self.refused(e, (("x", "y"), ("y", "z"), ("z", "w"))[:1])
        self.refused(("set", "x", Y), (("x", "y"),))
        self.refused(("set", "x", ("set", "y", ONE)), (("y", "x"), ("z", "y")))
        self.refused(("do", X, Y, ("name", "z")), (("x", "y"), ("y", "z")))
        self.right(e, (("x", "y"), ("y", "z")))
        self.right(e, (("x", "z"),))
        self.right(("let", "y", X, Y), (("x", "y"),))

    def test_what_is_no_exchange(self):
        right = ("x", "c")
        for e in (ONE, ("op", "+", X, Y), ("let", "x", ONE, X)):
            for thing in NO_TREES + (nested(right, 40),):
                if thing != ():
                    self.refused(e, thing)
                self.refused(e, (right, thing))
                self.refused(e, (thing, right))
                if not isinstance(thing, str) or thing != "x":
                    self.refused(e, (("q", thing),))
                    self.refused(e, ((thing, "q"),))
            for thing in (
                [], [right], (["x", "c"],), (("x", "c", "d"),), (("x",),), ((),), (right, right), (right, ("x", "d")),
                (right, ("y", "c")), (("x", "x"), ("y", "x")), ("xc",), ("x", "c"), (("x", "C"),), (("num", "c"),),
                (("x", "set"),), (("x", "ninechars"),), (("x", ""),), (("x", 1),), ((True, "c"),), ((("x",), "c"),),
                ((["x"], "c"),), (("x", ["c"]),), {"x": "c"},
            ):
                self.refused(e, thing)

    def test_great_ones(self):
        told = exchanged(let_chain(3000), (("x", "y"),))
        self.assertEqual(free_names(told), ("y",))

    def test_samples_hold_lets_and_sets_in_all_ways(self):
        words = [node[0] for e in samples() for path, node in each_path(e)]
        self.assertEqual(set(words), set(OF_EVERY_WORD))


if __name__ == "__main__":
    unittest.main()
