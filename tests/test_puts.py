"""[30], [3]: one function in the place of pieces, and that no run changes by it."""

import copy
import random
import unittest

from likepieces.errors import NoPut
from likepieces.programs import is_program, work
from likepieces.putcheck import lets_put
from likepieces.puts import put
from likepieces.runs import run
from tests.papers import plain_filled, some_paper
from tests.samples import ONE, X, Y, chain, plain_bare, replaced, some_programs

TAKE = ("take",)
A, B, Z = ("name", "a"), ("name", "b"), ("name", "z")
H0, H1 = ("hole", 0), ("hole", 1)
STILL, ONCE = "still", "once"
INPUTS = ((), (0,), (1,), (3, 0), (2, 1, 0), (0, 0, 0, 5), (7, 6, 5, 4, 3, 2, 1), (1,) * 20, tuple(range(20)))


def op(sign, one, other):
    return ("op", sign, one, other)


def bodies(program):
    return [function[2] for function in program[0]] + [program[1]]


class Case(unittest.TestCase):
    def is_put(self, program, paper):
        """By a paper that is let by the program becomes what the words say; what it becomes is told."""
        self.assertIs(is_program(program), True)
        self.assertIs(lets_put(program, paper), True)
        kept = copy.deepcopy((program, paper))
        found = put(program, paper)
        self.assertEqual((program, paper), kept)
        self.assertIs(is_program(found), True, found)
        index, name, params, pattern, rows = paper
        function = found[0][index]
        self.assertEqual(function[:2], (name, params))
        self.assertEqual(plain_bare(function[2]), plain_filled(pattern, [("name", param) for param in params]))
        self.calls_stand(program, paper, (found[0][:index] + found[0][index + 1:], found[1]))
        return found

    def calls_stand(self, program, paper, others):
        """Without the new function all is as it was, but for a call in the place of each piece."""
        self.assertEqual([function[:2] for function in others[0]], [function[:2] for function in program[0]])
        told, old = bodies(others), bodies(program)
        for (number, path), fillings, ways in paper[4]:
            call = told[number]
            for at in path:
                call = [part for part in call if isinstance(part, tuple)][at]
            self.assertEqual(call[:2], ("call", paper[1]))
            self.assertEqual(tuple(plain_bare(e) for e in call[2:]), fillings)
            told[number] = replaced(told[number], path, ONE)
            old[number] = replaced(old[number], path, ONE)
        self.assertEqual(told, old)

    def runs_alike(self, program, found, inputs=INPUTS):
        kinds = {}
        for row in inputs:
            told = run(program, row)
            self.assertEqual(run(found, row), told, (program, found, row))
            kinds[told[0][1] if told[0][0] == "fault" else "value"] = True
        return kinds


class Put(Case):
    def test_two_places(self):
        program = ((), ("do", ("say", op("*", X, ("num", 5))), ("say", op("*", TAKE, ("num", 7)))))
        pattern = ("say", op("*", H0, H1))
        rows = (((0, (0,)), (X, ("num", 5)), (STILL, STILL)), ((0, (1,)), (TAKE, ("num", 7)), (ONCE, STILL)))
        found = self.is_put(program, (0, "new", ("p", "q"), pattern, rows))
        self.assertEqual(found, (
            (("new", ("p", "q"), ("say", op("*", ("name", "p"), ("name", "q")))),),
            ("do", ("call", "new", X, ("num", 5)), ("call", "new", TAKE, ("num", 7))),
        ))
        self.assertEqual(self.runs_alike(program, found), {"value": True, "dry": True})

    def test_rows_in_any_order(self):
        program = ((("f", ("x",), ("say", X)),), ("do", ("say", TAKE), ("say", ("say", Y)), ("call", "f", ONE)))
        rows = (((1, (0,)), (TAKE,), (ONCE,)), ((0, ()), (X,), (STILL,)), ((1, (1, 0)), (Y,), (STILL,)))
        told = self.is_put(program, (0, "new", ("p",), ("say", H0), rows))
        self.assertEqual(self.is_put(program, (0, "new", ("p",), ("say", H0), rows[::-1])), told)
        self.runs_alike(program, told)

    def test_at_each_index(self):
        functions = (("f", (), ONE), ("g", (), ("call", "f")), ("h", (), ("call", "g")))
        program = (functions, ("say", ("call", "h")))
        for index in range(4):
            found = self.is_put(program, (index, "new", ("p",), ("say", H0), (((3, ()), (("call", "h"),), (STILL,)),)))
            self.assertEqual([function[0] for function in found[0]], list("fgh"[:index]) + ["new"] + list("fgh"[index:]))
            self.runs_alike(program, found)

    def test_calls_within_the_pattern(self):
        functions = (("f", ("x",), op("+", X, ONE)), ("g", ("y",), ("say", ("call", "f", Y))))
        program = (functions, op("-", ("say", ("call", "f", TAKE)), ("call", "g", ONE)))
        rows = (((1, ()), (Y,), (STILL,)), ((2, (0,)), (TAKE,), (ONCE,)))
        found = self.is_put(program, (1, "new", ("p",), ("say", ("call", "f", H0)), rows))
        self.assertEqual(found[0][2], ("g", ("y",), ("call", "new", Y)))
        self.runs_alike(program, found)

    def test_no_rows(self):
        program = ((("f", (), TAKE),), ("call", "f"))
        for index in (0, 1):
            found = self.is_put(program, (index, "new", ("p",), ("let", H0, ("own", 0)), ()))
            self.assertEqual(found[1], program[1])
            self.runs_alike(program, found)

    def test_a_whole_body_and_a_hole_alone(self):
        program = ((), ("set", "x", op("+", X, TAKE)))
        found = self.is_put(program, (0, "new", (), ("set", "x", op("+", X, TAKE)), (((0, ()), (), ()),)))
        self.assertEqual(found[1], ("call", "new"))
        self.runs_alike(program, found)
        found = self.is_put(program, (0, "new", ("p",), H0, (((0, ()), (program[1],), (ONCE,)),)))
        self.assertEqual(found, ((("new", ("p",), ("name", "p")),), ("call", "new", program[1])))
        self.runs_alike(program, found)

    def test_a_param_that_a_let_of_the_pattern_would_catch(self):
        for param in ("a", "b", "c", "x", "y"):
            program = ((), ("let", "k", TAKE, ("let", "m", ("name", "k"), op("-", op("*", ("name", "k"), ONE), op("+", ("name", "m"), Z)))))
            pattern = ("let", TAKE, ("let", ("own", 0), op("-", op("*", ("own", 1), ONE), op("+", ("own", 0), H0))))
            found = self.is_put(program, (0, "new", (param,), pattern, (((0, ()), (Z,), (STILL,)),)))
            self.runs_alike(program, found)

    def test_a_box_that_a_let_of_the_pattern_would_catch(self):
        for box in ("a", "b", "c"):
            program = ((), ("do", ("set", box, ("num", 7)), ("let", "k", TAKE, ("do", ("set", box, op("+", ("name", box), ("name", "k"))), ("name", box)))))
            setting = ("set", box, op("+", ("name", box), ("own", 0)))
            found = self.is_put(program, (0, "new", (), ("let", TAKE, ("do", setting, ("name", box))), (((0, (1,)), (), ()),)))
            self.runs_alike(program, found)

    def test_a_local_name_that_a_let_of_a_filling_would_catch(self):
        for local in ("a", "b", "c", "k"):
            filling = ("let", "k" if local != "k" else "m", TAKE, op("-", ("name", local), ("name", "k" if local != "k" else "m")))
            program = ((), ("let", local, ("num", 9), ("say", filling)))
            found = self.is_put(program, (0, "new", ("p",), ("say", H0), (((0, (1,)), (plain_bare(filling),), (ONCE,)),)))
            self.runs_alike(program, found)

    def test_a_set_that_a_let_of_a_filling_would_catch(self):
        for box in ("a", "b", "c"):
            filling = ("let", "k", TAKE, ("do", ("set", box, ("name", "k")), op("+", ("name", "k"), ("name", box))))
            program = ((), ("say", filling))
            found = self.is_put(program, (0, "new", ("p",), ("say", H0), (((0, ()), (plain_bare(filling),), (ONCE,)),)))
            self.runs_alike(program, found)

    def test_faults(self):
        program = ((), ("do", ("say", op("/", ("num", 6), TAKE)), ("say", op("/", ("num", 8), TAKE))))
        rows = tuple(((0, (at,)), (("num", 6 + 2 * at), TAKE), (STILL, ONCE)) for at in (0, 1))
        found = self.is_put(program, (0, "new", ("p", "q"), ("say", op("/", H0, H1)), rows))
        self.assertEqual(self.runs_alike(program, found), {"value": True, "dry": True, "nought": True})

    def test_however_deep(self):
        pattern = H0
        for at in range(1500):
            pattern = ("do", pattern)
        program = ((("f", (), chain(1500)),), chain(1500))
        paper = (0, "new", ("p",), pattern, tuple(((k, ()), (X,), (STILL,)) for k in (0, 1)))
        found = put(program, paper)
        self.assertEqual(found[0][1:] + found[1:], (("f", (), ("call", "new", X)), ("call", "new", X)))
        self.assertIs(is_program(found), True)


class NoRunChanges(Case):
    def test_whatever_is_let_by(self):
        rng = random.Random(51)
        seen = {}
        many = 0
        programs = some_programs(52, 400) + some_programs(53, 400, names=("a", "x")) + some_programs(54, 200, most_deep=5)
        for program in programs:
            if work(program) > 2000:
                continue
            for at in range(3):
                paper = some_paper(rng, program)
                try:
                    lets_put(program, paper)
                except NoPut:
                    continue
                many += 1
                found = self.is_put(program, paper)
                inputs = INPUTS[:5] + tuple(tuple(rng.randint(0, 3) for at in range(20)) for again in range(2))
                seen.update(self.runs_alike(program, found, inputs))
        self.assertGreater(many, 1200)
        self.assertEqual(sorted(seen), ["dry", "nought", "value"])

    def test_again_and_again(self):
        """What comes by a paper is a program for another one."""
        rng = random.Random(55)
        for program in some_programs(56, 100):
            if work(program) > 1000:
                continue
            found = program
            for name in ("newa", "newb", "newc"):
                paper = some_paper(rng, found)
                paper = (paper[0], name) + paper[2:]
                try:
                    lets_put(found, paper)
                except NoPut:
                    continue
                found = self.is_put(found, paper)
            self.runs_alike(program, found)


if __name__ == "__main__":
    unittest.main()
