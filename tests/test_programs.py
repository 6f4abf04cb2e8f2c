"""[16], [17]: programs, bodies, work."""

import copy
import unittest

from likepieces.programs import bodies, is_program, work
from tests.samples import NO_TREES, ONE, SIGNS, X, Y, chain, nested

F = ("f", ("a", "b"), ("op", "+", ("name", "a"), ("name", "b")))
G = ("g", (), ("call", "f", ("take",), ONE))
H = ("h", ("x",), ("do", ("call", "g"), ("say", ("call", "f", X, ("call", "g")))))
K = ("k", ("a", "b", "c", "d", "e", "g"), ("let", "x", ("name", "a"), ("set", "y", ("op", "-", X, ("name", "z")))))
MAIN = ("do", ("call", "h", ("call", "f", ONE, X)), ("call", "g"))


class Programs(unittest.TestCase):
    def right(self, *things):
        for thing in things:
            self.assertIs(is_program(thing), True, thing)

    def wrong(self, *things):
        for thing in things:
            self.assertIs(is_program(thing), False, thing)

    def wrong_function(self, *functions):
        """Each is wrong as the one function, behind others and ahead of others."""
        for function in functions:
            self.wrong(((function,), ONE), ((F, G, function), ONE), ((function, ("later", (), ONE)), ONE))

    def test_of_none_to_four_functions(self):
        self.right(((), ONE), ((), MAIN[:1] + (X,)), ((F,), ONE), ((F, G), MAIN[2]), ((F, G, H), MAIN), ((F, G, H, K), MAIN))
        many = tuple(("f" + letter, (), ONE) for letter in "abcdefghij")
        self.right((many, ("call", "fj")))

    def test_any_thing(self):
        self.wrong(*NO_TREES)
        for thing in NO_TREES:
            self.wrong(((), thing), (thing, thing), ((thing,), ONE), ((F, thing), ONE), ((F, ("g", (), thing)), ONE))
            if thing != ():
                self.wrong((thing, ONE))
            if thing not in ((), ("nix",)):
                self.wrong(((("g", thing, ONE),), ONE))
            if thing != "x":
                self.wrong((((thing, (), ONE),), ONE), ((("g", (thing,), ONE),), ONE))
        for at in range(1, 41):
            self.wrong(nested(((), ONE), at), ((nested(F, at),), ONE), ((), nested(ONE, at)))

    def test_a_list_for_a_tuple(self):
        self.wrong([(), ONE], ([], ONE), ([F], ONE), ((list(F),), ONE), ((), ["num", 1]))
        self.wrong((("f", ["a", "b"], ONE),), ((("f", ["a"], ONE),), ONE), ((("f", [], ONE),), ONE))
        self.wrong(((("f", (), ["num", 1]),), ONE))

    def test_a_thing_more_or_less(self):
        self.wrong(((),), ((), ONE, ONE), ((), ()), ((F,),), (F, ONE), (("f", (), ONE), ONE))
        self.wrong_function(("q", ()), ("q", (), ONE, ONE), ("q",), (), ("q", ONE), ("q", ONE, ()))

    def test_names_of_functions(self):
        self.wrong(((F, F), ONE), ((F, ("f", (), ONE)), ONE), ((F, G, H, ("g", (), ONE)), ONE))
        for name in ("", "num", "hole", "Q", "q1", "ninechars", 1, True, None, ("q",), ["q"]):
            self.wrong_function((name, (), ONE))
        self.right(((("free", (), ONE), ("main", (), ONE)), ONE))

    def test_params(self):
        six = ("a", "b", "c", "d", "e", "z")
        for many in range(7):
            self.right(((("q", six[:many], ONE),), ("call", "q") + (ONE,) * many))
        self.wrong_function(("q", six + ("y",), ONE), ("q", ("a", "a"), ONE), ("q", ("a", "b", "c", "a"), ONE))
        for name in ("", "num", "A", "ninechars", 1, True, None, ("a",), ["a"]):
            self.wrong_function(("q", (name,), ONE), ("q", ("a", name), ONE))
        self.wrong_function(("q", "ab", ONE), ("q", "a", ONE), ("q", None, ONE))
        self.right(((("q", ("q",), ("name", "q")),), ("call", "q", ("name", "q"))))

    def test_calls(self):
        self.wrong_function(("q", (), ("call", "q")), ("q", (), ("call", "later")), ("q", (), ("call", "nobody")))
        self.wrong(((G, F), ONE), ((("q", ("x",), ("call", "x")),), ONE))
        self.wrong(((), ("call", "f")), ((F,), ("call", "nobody")), ((), ("do", ONE, ("say", ("call", "f", ONE, ONE)))))
        self.right(((F,), ("call", "f", ONE, ("call", "f", X, Y))))

    def test_calls_of_a_part_more_or_less(self):
        for many in range(7):
            call = ("call", "f") + (ONE,) * many
            for e in (call, ("say", call), ("call", "f", ONE, call), ("call", "f", call, ONE), ("let", "x", call, ONE)):
                self.assertIs(is_program(((F,), e)), many == 2, e)
                self.assertIs(is_program(((F, ("q", (), e)), ONE)), many == 2, e)
        self.wrong(((F, G), ("call", "g", ONE)), ((F, G), ("call", "g", ("call", "g"))))

    def test_sets_of_params(self):
        bound = ("set", "a", ONE)
        around = (("say", bound), ("let", "x", bound, ONE), ("let", "x", ONE, ("do", ONE, bound)), ("set", "y", bound))
        for body in (bound,) + around:
            self.wrong_function(("q", ("a",), body), ("q", ("b", "c", "a"), body))
            self.right(((("q", ("b",), body),), ONE), ((("q", (), body),), ONE), ((), body))
        self.wrong_function(("q", ("a",), ("let", "a", bound, ONE)))
        self.right(((("q", ("a",), ("let", "a", ("name", "a"), ("name", "a"))),), bound))
        self.right(((("p", ("a",), ONE), ("q", (), bound)), bound))

    def test_bodies_are_expressions(self):
        bound = ("let", "x", ONE, ("set", "x", ONE))
        self.wrong(((), bound), ((), ("own", 0)), ((), ("hole", 0)), ((), ("let", ONE, ONE)), ((), "take"), ((), None))
        for body in (bound, ("own", 0), ("hole", 0), ("let", ONE, ONE), ("num", True), None, "take", (), []):
            self.wrong_function(("q", (), body))

    def test_nothing_handed_in_is_changed(self):
        for thing in ([[F], ONE], ((list(F),), ONE), ((("q", ["a", "b"], ONE),), ["num", 1])):
            kept = copy.deepcopy(thing)
            self.wrong(thing)
            self.assertEqual(thing, kept)

    def test_bodies(self):
        self.assertEqual(bodies(((), ONE)), (ONE,))
        self.assertEqual(bodies(((F,), X)), (F[2], X))
        self.assertEqual(bodies(((F, G, H, K), MAIN)), (F[2], G[2], H[2], K[2], MAIN))
        self.assertIs(type(bodies(((F,), X))), tuple)


class Work(unittest.TestCase):
    def work(self, number, e, functions=()):
        program = (functions, e)
        self.assertIs(is_program(program), True)
        self.assertEqual(work(program), number, program)

    def test_of_each_word(self):
        self.work(1, ONE)
        self.work(1, X)
        self.work(1, ("take",))
        for sign in SIGNS:
            self.work(3, ("op", sign, ONE, X))
        self.work(4, ("pick", X, ONE, Y))
        self.work(3, ("let", "x", ONE, X))
        self.work(2, ("set", "x", ONE))
        self.work(2, ("say", X))
        self.work(4, ("do", ONE, X, Y))
        self.work(6, ("op", "+", ("say", ("take",)), ("op", "*", ONE, X)))

    def test_of_again(self):
        for times in range(6):
            self.work(1 + times, ("again", times, ONE))
            self.work(1 + times * 4, ("again", times, ("op", "+", ("say", ONE), X)))
        self.work(1 + 5 * (1 + 3 * 2), ("again", 5, ("again", 3, ("say", X))))
        self.work(1 + 1 + 2, ("do", ("again", 0, ("again", 5, ONE)), ("say", ONE)))
        self.work(1, ("again", 0, ("call", "f", ONE, ONE)), (F,))

    def test_of_calls(self):
        self.work(6, ("call", "f", ONE, X), (F,))
        self.work(7, ("call", "f", ("say", ONE), X), (F,))
        self.work(1 + 6 + 1 + 3, ("call", "f", ("call", "f", ONE, X), X), (F,))
        self.work(1 + 6, ("call", "g"), (F, G))
        body = 1 + 7 + 1 + (1 + 1 + 7 + 3)
        self.work(1 + 1 + body, ("call", "h", ONE), (F, G, H))
        self.work(1 + (1 + 6 + body) + 7, MAIN, (F, G, H))
        self.work(1 + 4 * 7, ("again", 4, ("call", "g")), (F, G))
        self.work(1, ONE, (F, G, H))

    def test_of_calls_that_grow(self):
        functions = (("fa", (), ONE),)
        names = ["f" + letter for letter in "abcdefghijklmnopqrstuvwxyz"]
        number = 1
        for name, ahead in zip(names[1:], names):
            functions += ((name, (), ("again", 5, ("call", ahead))),)
            number = 1 + 5 * (1 + number)
        self.work(number + 1, ("call", "fz"), functions)

    def test_of_great_ones(self):
        self.assertEqual(work(((), chain(5000))), 5001)


if __name__ == "__main__":
    unittest.main()
