"""[32], [3]: functions put back in the place of their calls, programs that are the same but for bound names."""

import copy
import random
import unittest

from likepieces.backs import put_back, same_program
from likepieces.errors import LikeError, NoFunction, NoPut
from likepieces.programs import is_program, work
from likepieces.putcheck import lets_put
from likepieces.puts import put
from likepieces.putting import paper_for
from likepieces.runs import run
from likepieces.tables import table
from likepieces.trees import nodes
from tests.backing import bodies, scopes, scopes_back
from tests.papers import some_paper
from tests.samples import NAMES, ONE, X, Y, chain, each_path, let_list, refusal, renamed_all, replaced, some_programs

TAKE = ("take",)
TWO = ("num", 2)
A, B, Z = ("name", "a"), ("name", "b"), ("name", "z")
P, Q = ("name", "p"), ("name", "q")
H0 = ("hole", 0)
STILL, ONCE = "still", "once"
INPUTS = ((), (0,), (1,), (3, 0), (2, 1, 0), (7, 6, 5, 4, 3, 2, 1), tuple(range(20)))


def op(one, other):
    return ("op", "+", one, other)


def call(name, *inner):
    return ("call", name) + inner


class Case(unittest.TestCase):
    def back(self, program, name, *left):
        """The function put back leaves a program that is, but for bound names, what a plain second way makes, and,
        where bodies are told, one with these."""
        self.assertIs(is_program(program), True)
        kept = copy.deepcopy(program)
        found = put_back(program, name)
        self.assertEqual(program, kept)
        self.assertIs(is_program(found), True, found)
        self.assertEqual(scopes(found), scopes_back(program, name), (program, name))
        if left:
            functions = tuple(function[:2] + (body,) for function, body in zip(found[0], left))
            self.assertIs(same_program(found, (functions, left[-1])), True, found)
        return found


class Back(Case):
    def test_called_from_main(self):
        program = ((("f", ("p",), op(P, ONE)),), ("do", call("f", X), call("f", ("say", TWO))))
        self.assertEqual(self.back(program, "f"), ((), ("do", op(X, ONE), op(("say", TWO), ONE))))

    def test_called_from_other_functions(self):
        functions = (("f", ("p",), op(P, ONE)), ("g", ("x",), call("f", X)), ("h", ("f",), ("say", call("f", call("g", ("name", "f"))))))
        program = (functions, call("h", TAKE))
        found = self.back(program, "f")
        self.assertEqual(found, ((("g", ("x",), op(X, ONE)), ("h", ("f",), ("say", op(call("g", ("name", "f")), ONE)))), call("h", TAKE)))
        self.assertEqual(self.back(found, "g"), ((("h", ("f",), ("say", op(op(("name", "f"), ONE), ONE))),), call("h", TAKE)))
        self.assertEqual(self.back(program, "g")[0][1], ("h", ("f",), ("say", call("f", call("f", ("name", "f"))))))

    def test_not_called(self):
        program = ((("f", ("p",), op(P, ONE)), ("g", ("x",), ("let", "p", X, P))), ("let", "f", ONE, call("g", ("name", "f"))))
        self.assertEqual(self.back(program, "f"), (program[0][1:], program[1]))
        program = ((("f", (), X), ("g", (), Y), ("h", (), Z)), call("g"))
        self.assertEqual(self.back(program, "h"), (program[0][:2], call("g")))
        self.assertEqual(self.back(program, "g"), ((program[0][0], program[0][2]), Y))

    def test_called_within_its_own_parts(self):
        program = ((("f", ("p", "q"), op(Q, ("say", P))),), call("f", call("f", ONE, X), call("f", call("f", Y, TWO), Z)))
        inner = op(op(Z, ("say", op(TWO, ("say", Y)))), ("say", op(X, ("say", ONE))))
        self.assertEqual(self.back(program, "f"), ((), inner))

    def test_no_params(self):
        program = ((("f", (), ("say", X)), ("g", (), op(call("f"), call("f")))), ("do", call("g"), call("f")))
        self.assertEqual(self.back(program, "f"), ((("g", (), op(("say", X), ("say", X))),), ("do", call("g"), ("say", X))))

    def test_params_several_times_once_and_never(self):
        program = ((("f", ("p", "q", "a"), ("do", P, Q, P, ("again", 2, P))),), call("f", TAKE, ("say", ONE), ("set", "x", TWO)))
        self.assertEqual(self.back(program, "f"), ((), ("do", TAKE, ("say", ONE), TAKE, ("again", 2, TAKE))))

    def test_params_named_like_the_parts(self):
        program = ((("f", ("p", "q"), op(P, Q)),), call("f", Q, P))
        self.assertEqual(self.back(program, "f"), ((), op(Q, P)))
        program = ((("f", ("p", "q"), op(P, Q)), ("g", ("q", "p"), call("f", Q, op(P, Q)))), call("g", ONE, TWO))
        self.assertEqual(self.back(program, "f")[0], (("g", ("q", "p"), op(Q, op(P, Q))),))

    def test_six_params(self):
        params = tuple("abcdef")
        body = ("do",) + tuple(("name", param) for param in params[::-1])
        program = ((("f", params, body),), call("f", *[("num", k) for k in range(6)]))
        self.assertEqual(self.back(program, "f"), ((), ("do",) + tuple(("num", 5 - k) for k in range(6))))

    def test_a_name_that_a_let_of_the_body_would_catch(self):
        program = ((("f", ("p",), ("let", "x", TAKE, op(X, P))),), ("do", call("f", X), call("f", ("let", "x", ONE, X))))
        self.back(program, "f", ("do", ("let", "k", TAKE, op(("name", "k"), X)), ("let", "k", TAKE, op(("name", "k"), ("let", "x", ONE, X)))))
        program = ((("f", ("p",), ("let", "x", TAKE, op(X, P))),), ("let", "x", ONE, call("f", X)))
        self.back(program, "f", ("let", "x", ONE, ("let", "k", TAKE, op(("name", "k"), X))))
        program = ((("f", ("p",), ("let", "x", TAKE, op(X, P))), ("g", ("x",), call("f", X))), call("g", ONE))
        self.back(program, "f", ("let", "k", TAKE, op(("name", "k"), X)), call("g", ONE))

    def test_a_let_of_the_body_named_like_a_param(self):
        program = ((("f", ("p",), ("let", "p", op(P, ONE), op(P, P))),), ("do", call("f", P), call("f", TAKE)))
        told = ("let", "k", op(P, ONE), op(("name", "k"), ("name", "k")))
        self.back(program, "f", ("do", told, replaced(told, (0, 0), TAKE)))

    def test_a_set_of_a_part_beneath_a_let_of_the_body(self):
        program = ((("f", ("p",), ("let", "x", TAKE, op(X, P))),), call("f", ("set", "x", ONE)))
        self.back(program, "f", ("let", "k", TAKE, op(("name", "k"), ("set", "x", ONE))))

    def test_a_name_of_the_body_that_a_let_of_the_caller_would_catch(self):
        program = ((("f", ("p",), op(P, X)),), ("let", "x", TAKE, op(X, call("f", X))))
        self.back(program, "f", ("let", "k", TAKE, op(("name", "k"), op(("name", "k"), X))))

    def test_a_name_of_the_body_that_a_param_of_the_caller_would_catch(self):
        program = ((("f", ("p",), op(P, X)), ("g", ("y", "x"), op(X, call("f", Y)))), call("g", ONE, TWO))
        found = self.back(program, "f")
        params, body = found[0][0][1:]
        self.assertEqual(params[0], "y")
        self.assertNotIn(params[1], ("x", "y"))
        self.assertEqual(body, op(("name", params[1]), op(Y, X)))

    def test_a_set_of_the_body_beneath_a_let_or_a_param_of_the_caller(self):
        program = ((("f", (), ("set", "x", ONE)), ("g", ("x",), op(X, call("f")))), ("let", "x", TAKE, op(call("f"), X)))
        found = self.back(program, "f")
        self.assertNotEqual(found[0][0][1], ("x",))
        self.assertEqual(found[0][0][2], op(("name", found[0][0][1][0]), ("set", "x", ONE)))
        self.assertEqual(found[1][0], "let")
        self.assertNotEqual(found[1][1], "x")

    def test_boxes_of_the_body_within_its_own_lets(self):
        """The inner call's box comes beneath the outer call's let of the same name."""
        body = op(X, ("let", "x", TAKE, op(P, X)))
        program = ((("f", ("p",), body),), call("f", call("f", Y)))
        k = ("name", "k")
        inner = op(X, ("let", "k", TAKE, op(Y, k)))
        self.back(program, "f", op(X, ("let", "k", TAKE, op(inner, k))))

    def test_names_that_are_made_up_are_new(self):
        for name in ("a", "b", "c", "d"):
            inner = ("let", "x", TAKE, ("let", "a", X, ("let", "b", A, op(op(X, ("name", name)), op(P, ("let", "c", B, ("name", "c")))))))
            functions = (("f", ("p",), inner), ("g", ("a", "x", name)[:2 if name == "a" else 3], call("f", op(A, X))))
            program = (functions, ("let", "c", ONE, ("let", "x", A, call("f", op(("name", "c"), op(X, B))))))
            self.back(program, "f")

    def test_names_that_are_made_up_are_no_let_s(self):
        """The param gets another name, and stands beneath a let with the name that comes first where names are made up."""
        inner = ("let", "a", ONE, op(X, call("f")))
        found = self.back(((("f", (), X), ("g", ("x",), inner)), ("let", "x", TWO, inner)), "f")
        self.assertNotIn(found[0][0][1][0], ("a", "x"))
        self.assertNotIn(found[1][1], ("a", "x"))

    def test_params_stay_where_they_can(self):
        program = ((("f", ("p",), ("let", "x", P, op(X, Z))), ("g", ("x", "y"), op(X, call("f", Y))), ("h", ("z",), Z)), call("g", ONE, TWO))
        found = self.back(program, "f")
        self.assertEqual([function[:2] for function in found[0]], [("g", ("x", "y")), ("h", ("z",))])

    def test_no_function(self):
        program = ((("f", ("p",), ("let", "k", P, op(("name", "k"), X))), ("ff", (), ONE)), ("let", "m", call("ff"), ("set", "y", call("f", ("name", "m")))))
        for name in ("x", "y", "p", "k", "m", "fa", "fff", "g", "main", "", "f ", "F", "num", "nobodyatall"):
            kept = copy.deepcopy(program)
            error = refusal(self, NoFunction, put_back, program, name)
            self.assertIsInstance(error, LikeError)
            self.assertEqual(error.name, name)
            self.assertEqual(program, kept)
        refusal(self, NoFunction, put_back, ((), ONE), "f")
        found = self.back(program, "f")
        self.assertEqual(refusal(self, NoFunction, put_back, found, "f").name, "f")

    def test_a_thousand_nodes(self):
        program = ((("f", ("p",), op(P, P)),), X)
        for again in range(8):
            program = (program[0], call("f", program[1]))
        found = self.back(program, "f")
        self.assertEqual(nodes(found[1]), 511)
        nest = [X]
        for again in range(8):
            nest.append(call("f", nest[-1]))
        found = self.back((program[0], ("do",) + tuple(nest[3:])), "f")
        self.assertEqual(nodes(found[1]), 1 + 15 + 31 + 63 + 127 + 255 + 511)
        functions = tuple((name, ("x",), op(call(below, X), call(below, X)) if below else op(X, Y)) for below, name in zip((None,) + tuple("abcdefg"), "abcdefgh"))
        found = (functions, call("h", TAKE))
        for name in "abcdefgh":
            found = self.back(found, name)
        self.assertEqual((found[0], nodes(found[1])), ((), 511))

    def test_however_deep(self):
        program = ((("f", ("x",), chain(1200)),), ("do", call("f", chain(1200)), call("f", ("let", "x", ONE, chain(1200)))))
        found = put_back(program, "f")
        self.assertIs(is_program(found), True)
        self.assertEqual(nodes(found[1]), 1 + 2401 + 2403)
        again = put_back((program[0], found[1]), "f")
        self.assertIs(same_program(again, found), True)
        self.assertIs(same_program(again, ((), ("do", found[1]))), False)

    def test_against_a_plain_second_way(self):
        many = 0
        for program in some_programs(321, 250) + some_programs(322, 250, names=("a", "x", "y")) + some_programs(323, 60, most_deep=5):
            for name in [function[0] for function in program[0]]:
                expected = scopes_back(program, name)
                if sum(len(each_path(body)) for other, count, body in expected) > 1000:
                    continue
                found = self.back(program, name)
                self.assertEqual([function[0] for function in found[0]], [function[0] for function in program[0] if function[0] != name])
                many += 1
        self.assertGreater(many, 600)


class Same(unittest.TestCase):
    PROGRAM = (
        (("f", ("p", "q"), ("let", "k", P, op(("name", "k"), op(Q, X)))), ("g", (), TAKE), ("h", ("y",), call("f", Y, ("set", "x", Y)))),
        ("let", "m", call("g"), call("h", op(("name", "m"), Y))),
    )

    def same(self, told, one, other):
        for program in (one, other):
            self.assertIs(is_program(program), True, program)
        self.assertIs(same_program(one, other), told, (one, other))
        self.assertIs(same_program(other, one), told, (one, other))
        self.assertIs(same_program(one, one), True)
        self.assertEqual(scopes(one) == scopes(other), told)

    def with_function(self, at, *function):
        functions, main = self.PROGRAM
        return (functions[:at] + (function,) + functions[at + 1:], main)

    def test_other_names_of_lets(self):
        functions, main = self.PROGRAM
        for name in ("a", "q", "total", "p"):
            inner = ("let", name, P, op(("name", name), op(Q, X)))
            self.same(name != "q", self.PROGRAM, self.with_function(0, "f", ("p", "q"), inner))
        self.same(True, self.PROGRAM, (functions, ("let", "a", call("g"), call("h", op(A, Y)))))
        self.same(False, self.PROGRAM, (functions, ("let", "y", call("g"), call("h", op(Y, Y)))))

    def test_other_names_of_params(self):
        k = ("name", "k")
        self.same(True, self.PROGRAM, self.with_function(0, "f", ("a", "b"), ("let", "k", A, op(k, op(B, X)))))
        self.same(True, self.PROGRAM, self.with_function(0, "f", ("q", "p"), ("let", "k", Q, op(k, op(P, X)))))
        self.same(True, self.PROGRAM, self.with_function(0, "f", ("k", "q"), ("let", "p", k, op(P, op(Q, X)))))
        self.same(True, self.PROGRAM, self.with_function(2, "h", ("f",), call("f", ("name", "f"), ("set", "x", ("name", "f")))))

    def test_a_function_s_name(self):
        one = ((("f", (), ONE), ("g", (), TWO)), X)
        self.same(False, one, ((("f", (), ONE), ("h", (), TWO)), X))
        self.same(False, one, ((("g", (), ONE), ("f", (), TWO)), X))
        self.same(False, one, ((("g", (), TWO), ("f", (), ONE)), X))
        self.same(False, one, ((("f", (), ONE),), X))
        self.same(False, one, ((), X))

    def test_counts_and_order_of_params(self):
        one = ((("f", ("p", "q"), op(P, Q)),), X)
        self.same(False, one, ((("f", ("p", "q", "a"), op(P, Q)),), X))
        self.same(False, one, ((("f", ("q", "p"), op(P, Q)),), X))
        self.same(False, one, ((("f", ("p", "q"), op(Q, P)),), X))
        self.same(True, one, ((("f", ("q", "p"), op(Q, P)),), X))
        self.same(False, ((("f", ("p",), ONE),), X), ((("f", (), ONE),), X))
        self.same(True, ((("f", ("p",), ONE),), X), ((("f", ("q",), ONE),), X))

    def test_a_body(self):
        self.same(False, self.PROGRAM, self.with_function(1, "g", (), ONE))
        self.same(False, self.PROGRAM, self.with_function(1, "g", (), ("do", TAKE)))
        self.same(False, self.PROGRAM, self.with_function(2, "h", ("y",), call("f", Y, ("set", "z", Y))))
        self.same(False, self.PROGRAM, self.with_function(2, "h", ("y",), call("f", Y, Y)))
        self.same(False, (self.PROGRAM[0], X), (self.PROGRAM[0], Y))
        self.same(False, (self.PROGRAM[0], ONE), (self.PROGRAM[0], TWO))
        self.same(False, (self.PROGRAM[0], call("g")), (self.PROGRAM[0], TAKE))

    def test_a_box_is_no_param(self):
        self.same(False, ((("f", ("p",), op(P, Q)),), X), ((("f", ("q",), op(Q, Q)),), X))
        self.same(False, ((("f", ("p",), op(P, Q)),), X), ((("f", ("q",), op(Q, P)),), X))
        self.same(False, ((("f", ("p",), Q),), X), ((("f", ("q",), Q),), X))
        self.same(False, ((("f", ("p", "q"), P),), X), ((("f", ("q", "x"), P),), X))
        self.same(False, ((("f", ("p",), ("let", "p", ONE, P)),), X), ((("f", ("p",), ("let", "q", ONE, P)),), X))

    def test_against_a_plain_second_way(self):
        rng = random.Random(324)
        seen = {True: 0, False: 0}
        for program in some_programs(325, 200, names=("a", "b", "x")):
            for again in range(6):
                functions = []
                table = dict(zip(NAMES, rng.sample(NAMES, len(NAMES))))
                for name, params, body in program[0]:
                    inner = {x: table[x] if x in params + tuple(let_list(body)) or rng.random() < 0.3 else x for x in NAMES}
                    functions.append((name, tuple(inner[param] for param in params), renamed_all(body, inner)))
                other = (tuple(functions), program[1])
                if is_program(other):
                    told = scopes(program) == scopes(other)
                    seen[told] += 1
                    self.same(told, program, other)
        self.assertGreater(min(seen.values()), 50)


class PutAndBack(Case):
    def is_first(self, program, paper):
        self.assertIs(lets_put(program, paper), True)
        found = put(program, paper)
        again = self.back(found, paper[1])
        self.assertIs(same_program(again, program), True, (program, paper))
        self.assertIs(same_program(program, again), True)
        # But for the names of lets alone: params stay.
        self.assertEqual([function[:2] for function in again[0]], [function[:2] for function in program[0]])
        return found

    def test_by_hand(self):
        program = ((("f", ("x",), ("let", "y", X, ("say", op(Y, ONE)))),), ("do", ("say", op(TAKE, ONE)), ("say", op(("let", "z", ONE, Z), ONE)), call("f", TWO)))
        rows = (((0, (1,)), (Y,), (STILL,)), ((1, (0,)), (TAKE,), (ONCE,)), ((1, (1,)), (("let", ONE, ("own", 0)),), (ONCE,)))
        for name in ("a", "y", "x", "g"):
            for param in ("p", "x", "y", "z"):
                pattern = ("say", op(H0, ONE))
                self.is_first(program, (0, name, (param,), pattern, rows))
                self.is_first(program, (0, name, (param,), pattern, rows[:1]))
                self.is_first(program, (1, name, (param,), pattern, rows[1:]))
                self.is_first(program, (1, name, (param,), pattern, rows[2:]))
                self.is_first(program, (1, name, (param,), ("let", H0, ("own", 0)), ()))
        whole = (1, "new", ("p",), H0, (((1, ()), (("do", ("say", op(TAKE, ONE)), ("say", op(("let", ONE, ("own", 0)), ONE)), call("f", TWO)),), (ONCE,)),))
        self.is_first(program, whole)

    def test_told_still_and_told_once(self):
        program = ((), ("do", ("say", op(X, Y)), ("say", op(ONE, TWO))))
        for ways in ((STILL, STILL), (STILL, ONCE), (ONCE, STILL), (ONCE, ONCE)):
            rows = (((0, (0,)), (X, Y), ways), ((0, (1,)), (ONE, TWO), ways[::-1]))
            self.is_first(program, (0, "new", ("y", "x"), ("say", op(H0, ("hole", 1))), rows))

    def test_a_pattern_with_lets_and_boxes(self):
        inner = ("let", "k", TAKE, ("do", ("set", "x", ("name", "k")), op(X, Y)))
        program = ((("f", ("k", "y"), op(("name", "k"), inner)),), ("let", "y", ONE, inner))
        pattern = ("let", TAKE, ("do", ("set", "x", ("own", 0)), op(X, H0)))
        self.is_first(program, (0, "new", ("k",), pattern, (((0, (1,)), (Y,), (STILL,)), ((1, (1,)), (Y,), (STILL,)))))

    def test_whatever_is_let_by(self):
        rng = random.Random(326)
        many = 0
        for program in some_programs(327, 250) + some_programs(328, 250, names=("a", "x")) + some_programs(329, 50, most_deep=5):
            for again in range(3):
                paper = some_paper(rng, program)
                try:
                    lets_put(program, paper)
                except NoPut:
                    continue
                self.is_first(program, paper)
                many += 1
        self.assertGreater(many, 700)

    def test_papers_that_are_told(self):
        many = 0
        for program in some_programs(330, 150):
            for shape, places in table(program, 2):
                told = paper_for(program, places) if len(places) > 1 else ("not",)
                if told[0] == "put":
                    self.is_first(program, told[1])
                    many += 1
        self.assertGreater(many, 100)

    def test_two_papers_put_back_in_either_order(self):
        rng = random.Random(331)
        many = 0
        for program in some_programs(332, 200):
            first = some_paper(rng, program)
            try:
                lets_put(program, first)
                found = put(program, first)
                second = some_paper(rng, found)
                second = second[:1] + ("other",) + second[2:]
                lets_put(found, second)
            except NoPut:
                continue
            both = put(found, second)
            for names in (("other", first[1]), (first[1], "other")):
                again = self.back(self.back(both, names[0]), names[1])
                self.assertIs(same_program(again, program), True)
                self.assertEqual([function[:2] for function in again[0]], [function[:2] for function in program[0]])
            if work(program) <= 1000:
                for row in INPUTS:
                    self.assertEqual(run(again, row), run(program, row))
            many += 1
        self.assertGreater(many, 50)

    def test_the_names_of_lets_alone(self):
        """Bodies without lets come back as they were."""
        program = ((("f", ("x",), ("say", op(X, ONE))),), ("do", ("say", op(Y, ONE)), call("f", ("say", op(TAKE, ONE)))))
        told = paper_for(program, ((0, ()), (1, (0,)), (1, (1, 0))))
        self.assertEqual(told[0], "put")
        self.assertEqual(bodies(put_back(put(program, told[1]), told[1][1])), bodies(program))


if __name__ == "__main__":
    unittest.main()
