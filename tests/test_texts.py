"""[35], [36]: expressions and programs written as texts."""

import copy
import unittest

from likepieces.programs import bodies
from likepieces.reading import read, read_program
from likepieces.texts import show, show_program
from likepieces.trees import deep
from tests.samples import OF_EVERY_WORD, ONE, X, Y, chain, each_path, some_expressions, some_programs
from tests.wording import SIGNS, plain_lines, plain_show

TAKE = ("take",)
TWO = ("num", 2)

SHOWN = (
    (("num", 0), "0"),
    (("num", 7), "7"),
    (("num", 10), "10"),
    (("num", 999999999), "999999999"),
    (X, "x"),
    (("name", "abcdefgh"), "abcdefgh"),
    (TAKE, "take"),
    (("op", "+", ONE, X), "( + 1 x )"),
    (("pick", X, ONE, Y), "( pick x 1 y )"),
    (("let", "x", ONE, X), "( let x 1 x )"),
    (("set", "x", ONE), "( set x 1 )"),
    (("say", X), "( say x )"),
    (("do", ONE), "( do 1 )"),
    (("do", ONE, X, Y, TAKE, TWO, ("num", 0)), "( do 1 x y take 2 0 )"),
    (("again", 0, X), "( again 0 x )"),
    (("again", 5, X), "( again 5 x )"),
    (("call", "f"), "( call f )"),
    (("call", "f", ONE), "( call f 1 )"),
    (("call", "f", ONE, X, Y, TAKE, TWO, ("num", 0)), "( call f 1 x y take 2 0 )"),
    (("say", ("op", "/", ("say", TAKE), ("do", ("call", "g")))), "( say ( / ( say take ) ( do ( call g ) ) ) )"),
    (("let", "x", ("let", "y", ONE, Y), ("set", "z", ("let", "y", X, Y))), "( let x ( let y 1 y ) ( set z ( let y x y ) ) )"),
)


class Show(unittest.TestCase):
    def test_each_kind(self):
        for e, text in SHOWN:
            self.assertEqual(show(e), text)
            self.assertEqual(read(text), e)
        for sign in SIGNS:
            self.assertEqual(show(("op", sign, X, TAKE)), f"( {sign} x take )")
            self.assertEqual(read(f"( {sign} x take )"), ("op", sign, X, TAKE))
        for e in OF_EVERY_WORD.values():
            self.assertEqual(read(show(e)), e)

    def test_by_chance(self):
        for e in some_expressions(351, 600, most_deep=6):
            kept = copy.deepcopy(e)
            self.assertEqual(show(e), plain_show(e))
            self.assertEqual(read(show(e)), e)
            self.assertEqual(e, kept)

    def test_many_nodes(self):
        e = ("do", X, ("say", TAKE), Y)
        for again in range(4):
            e = ("do", e, ("let", "k", e, ("op", "*", ("name", "k"), ONE)), e)
        self.assertGreater(len(each_path(e)), 500)
        self.assertEqual(show(e), plain_show(e))
        self.assertEqual(read(show(e)), e)
        broad = ("do",) + (("do",) + (("do",) + (("do", X, Y, ONE, X, Y, TAKE),) * 6,) * 6,) * 6
        self.assertEqual(read(show(broad)), broad)

    def test_however_deep(self):
        text = show(chain(3000))
        self.assertEqual(text, "( do " * 3000 + "x" + " )" * 3000)


class ShowProgram(unittest.TestCase):
    def shown(self, program, *lines):
        kept = copy.deepcopy(program)
        self.assertEqual(show_program(program), lines)
        self.assertEqual(program, kept)
        # Deeper texts are written, but not read.
        if max(deep(body) for body in bodies(program)) <= 12:
            self.assertEqual(read_program(lines), program)

    def test_no_function(self):
        self.shown(((), ("num", 0)), "0")
        self.shown(((), ("say", X)), "( say x )")

    def test_functions(self):
        self.shown(((("f", (), TAKE),), ("call", "f")), "f : take", "( call f )")
        self.shown(((("f", ("x",), X),), ("call", "f", ONE)), "f x : x", "( call f 1 )")
        params = tuple("abcdef")
        program = ((("f", params, ("op", "-", ("name", "a"), ("name", "f"))), ("g", ("f", "g"), ("call", "f") + (ONE,) * 6)), ("call", "g", X, Y))
        self.shown(program, "f a b c d e f : ( - a f )", "g f g : ( call f 1 1 1 1 1 1 )", "( call g x y )")

    def test_more_than_four_functions(self):
        names = "abcdefghijklmnopqrstuvwxyz"
        functions = tuple((name, ("x",), ("call", below, X) if below else X) for below, name in zip((None,) + tuple(names), names))
        program = (functions, ("call", "z", ("call", "a", TAKE)))
        self.assertEqual(show_program(program), plain_lines(program))
        self.assertEqual(read_program(show_program(program)), program)

    def test_by_chance(self):
        for program in some_programs(352, 300):
            self.shown(program, *plain_lines(program))

    def test_however_deep(self):
        lines = show_program(((("f", (), chain(2000)),), chain(2000)))
        self.assertEqual(lines[0], "f : " + lines[1])


if __name__ == "__main__":
    unittest.main()
