"""[35], [36]: texts read as expressions and programs, and the words that can not stand."""

import random
import unittest

from likepieces.errors import LikeError, NoLine, NoText
from likepieces.programs import is_program
from likepieces.reading import read, read_program
from likepieces.trees import deep, is_expression
from tests.samples import ONE, WORDS, X, Y, refusal, some_expressions, some_programs
from tests.wording import SIGNS, changed_words, first_wrong, first_wrong_line, plain_lines, plain_show

TAKE = ("take",)
POOL = ("", "(", ")", ":", "0", "5", "6", "01", "x", "y", "a", "b", "f", "g", "X", "take", "num", "ninechars", "1000000000", "-1", "|") + SIGNS + (
    "pick", "let", "set", "say", "do", "again", "call")


class Read(unittest.TestCase):
    def refused(self, at, text):
        error = refusal(self, NoText, read, text)
        self.assertIsInstance(error, LikeError)
        self.assertEqual(error.at, at, text)
        self.assertIs(type(error.at), int)
        self.assertEqual(first_wrong(text.split(" ")), at, text)

    def told(self, text, e):
        self.assertEqual(read(text), e)
        self.assertIs(is_expression(read(text)), True)
        self.assertIsNone(first_wrong(text.split(" ")))

    def test_blanks(self):
        self.refused(0, "")
        self.refused(0, " ")
        self.refused(0, " x")
        self.refused(1, "x ")
        self.refused(1, "x  ")
        self.refused(1, "(  say x )")
        self.refused(2, "( say  x )")
        self.refused(3, "( say x  )")
        self.refused(3, "( say x ")
        self.refused(4, "( say x ) ")
        self.refused(0, " ( say x )")
        self.refused(0, "(say x)")
        self.refused(2, "( say x)")

    def test_figures(self):
        for text in ("0", "9", "10", "999999999", "123456789", "100000000"):
            self.told(text, ("num", int(text)))
            self.told(f"( say {text} )", ("say", ("num", int(text))))
        for word in ("00", "01", "007", "0000000000", "1000000000", "0999999999", "9999999999", "9" * 5000, "-1", "+1", "1.5", "1_0", "1e3",
                     "0x1", "1a", "a1", "1,", "--1", "1-"):
            self.refused(0, word)
            self.refused(2, f"( say {word} )")

    def test_names(self):
        for text in ("x", "z", "abcdefgh", "if", "true", "none", "free", "main", "fun"):
            self.told(text, ("name", text))
        for word in ("abcdefghi", "X", "xY", "x1", "x_", "x-y", "x.y", "#", ":", "&", "~", "|", "<=", "==", "name", "num", "own", "hole"):
            self.refused(0, word)
            self.refused(3, f"( + x {word} )")
            self.refused(2, f"( let {word} 1 2 )")
            self.refused(2, f"( set {word} 1 )")
            self.refused(2, f"( call {word} 1 )")

    def test_words_of_the_tongue(self):
        for word in WORDS:
            if word != "take":
                self.refused(0, word)
                self.refused(2, f"( say {word} )")
            self.refused(2, f"( let {word} 1 2 )")
            self.refused(2, f"( set {word} 1 )")
            self.refused(2, f"( call {word} )")
            self.refused(0, word.upper())
        self.told("take", TAKE)
        for sign in SIGNS:
            self.refused(0, sign)
            self.refused(2, f"( say {sign} )")

    def test_what_stands_behind_a_bracket(self):
        for word in ("num", "name", "op", "take", "own", "hole", "free", "x", "1", "(", ")", "", "Say", "says", "!", "++", "==", "<=", ":"):
            self.refused(1, f"( {word} 1 2 )")
        self.refused(1, "( take )")
        self.refused(1, "( x )")
        self.refused(1, "( 1 )")
        self.refused(1, "( )")
        self.refused(1, "( ( say 1 ) )")
        self.refused(1, "( op + 1 2 )")

    def test_brackets_alone(self):
        self.refused(1, "(")
        self.refused(0, ")")
        self.refused(1, "( (")
        self.refused(0, ") (")
        self.refused(1, "x )")
        self.refused(1, "x (")

    def test_words_behind_the_end(self):
        self.refused(1, "x x")
        self.refused(1, "1 2 3")
        self.refused(4, "( say x ) x")
        self.refused(4, "( say x ) )")
        self.refused(4, "( say x ) ( say x )")
        self.refused(4, "( say x ) |")

    def test_words_that_lack(self):
        for text in ("( + 1 x )", "( pick x 1 y )", "( let x 1 x )", "( set x 1 )", "( do 1 x )", "( again 3 x )", "( call f 1 x )",
                     "( say ( let x ( do take ) ( call f ( again 2 x ) ) ) )"):
            words = text.split(" ")
            read(text)
            for many in range(1, len(words)):
                self.refused(many, " ".join(words[:many]))

    def test_parts_too_few(self):
        for text, at in (("( + )", 2), ("( + 1 )", 3), ("( pick )", 2), ("( pick 1 )", 3), ("( pick 1 2 )", 4), ("( let )", 2), ("( let x )", 3),
                         ("( let x 1 )", 4), ("( set )", 2), ("( set x )", 3), ("( say )", 2), ("( do )", 2), ("( again )", 2), ("( again 3 )", 3), ("( call )", 2)):
            self.refused(at, text)

    def test_parts_too_many(self):
        for text, at in (("( + 1 2 3 )", 4), ("( pick 1 2 3 4 )", 5), ("( let x 1 2 3 )", 5), ("( set x 1 2 )", 4), ("( say 1 2 )", 3),
                         ("( do 1 2 3 4 5 6 7 )", 8), ("( again 3 1 2 )", 4), ("( call f 1 2 3 4 5 6 7 )", 9), ("( say 1 ( say 2 ) )", 3),
                         ("( do 1 2 3 4 5 6 ( say 1 ) )", 8), ("( call f 1 2 3 4 5 6 ( x", 9)):
            self.refused(at, text)
        self.told("( do 1 2 3 4 5 6 )", ("do",) + tuple(("num", k) for k in range(1, 7)))
        self.told("( call f 1 2 3 4 5 6 )", ("call", "f") + tuple(("num", k) for k in range(1, 7)))
        self.told("( call f )", ("call", "f"))

    def test_agains(self):
        for many in range(6):
            self.told(f"( again {many} x )", ("again", many, X))
        for word in ("6", "7", "10", "00", "01", "05", "-1", "x", "take", "(", ")", "", "1" * 5000, "5.0"):
            self.refused(2, f"( again {word} x )")

    def test_sets_of_bound_names(self):
        self.refused(6, "( let x 1 ( set x 2 ) )")
        self.refused(9, "( let x 1 ( do y ( set x 2 ) ) )")
        self.refused(13, "( let x 1 ( let y 2 ( do y ( set x 3 ) ) ) )")
        self.refused(10, "( let x 1 ( let y 2 ( set y 3 ) ) )")
        self.told("( let x ( set x 1 ) x )", ("let", "x", ("set", "x", ONE), X))
        self.told("( do ( let x 1 x ) ( set x 1 ) )", ("do", ("let", "x", ONE, X), ("set", "x", ONE)))
        self.told("( let x 1 ( set y x ) )", ("let", "x", ONE, ("set", "y", X)))
        self.told("( let x 1 ( call x x ) )", ("let", "x", ONE, ("call", "x", X)))
        # Behind the inner let of the same name the outer one still binds.
        self.refused(14, "( let x 1 ( do ( let x 2 x ) ( set x 3 ) ) )")

    def test_twelve_deep(self):
        for kind in ("say", "do", "again 2", "set y", "call f"):
            words = kind.split(" ")
            text = " ".join(["("] + words) + " "
            read(text * 11 + "x" + " )" * 11)
            self.assertEqual(deep(read(text * 11 + "x" + " )" * 11)), 12)
            at = 12 * (1 + len(words))
            self.refused(at, text * 12 + "x" + " )" * 12)
            self.refused(at, text * 12 + "take")
            self.refused(at, text * 12 + "( call f )" + " )" * 12)
            self.refused(at, text * 13 + "x" + " )" * 13)
            self.refused(at, text * 12 + "(")
            self.refused(at, text * 12 + "nonsense!")
            self.refused(at, text * 12)
            self.refused(at, (text * 12)[:-1])
            self.refused(at, text * 40 + "x" + " )" * 40)

    def test_twelve_deep_whatever_was_ahead(self):
        open_eleven = "( do 1 x take " * 11
        closed = " )" * 11
        at = 5 * 11
        read(open_eleven + "( call f )" + closed)
        self.refused(at + 3, open_eleven + "( call f x )" + closed)
        self.refused(at + 2, open_eleven + "( say x )" + closed)
        self.refused(at + 2, open_eleven + "( do )" + closed)
        self.refused(at + 3, open_eleven + "( let k x x )" + closed)
        self.refused(at + 3, open_eleven + "( again 2 x )" + closed)
        self.refused(at + 2, open_eleven + "( again 6 x )" + closed)
        self.refused(at + 2, open_eleven + "( + 1 2 )" + closed)
        self.refused(at + 2, open_eleven + "( say")
        self.refused(at + 1, open_eleven + "(")
        self.refused(at + 1, open_eleven + "( x")

    def test_against_a_plain_second_way(self):
        rng = random.Random(361)
        seen = {}
        for e in some_expressions(362, 500):
            words = plain_show(e).split(" ")
            for again in range(12):
                changed = words
                for many in range(rng.randint(1, 3)):
                    changed = changed_words(rng, changed, POOL) or [""]
                expected = first_wrong(changed)
                seen[expected is None] = seen.get(expected is None, 0) + 1
                if expected is None:
                    self.assertEqual(plain_show(read(" ".join(changed))), " ".join(changed))
                else:
                    self.refused(expected, " ".join(changed))
        self.assertGreater(min(seen.values()), 200)

    def test_texts_by_chance(self):
        rng = random.Random(363)
        for again in range(3000):
            words = ["("] * rng.randint(0, 1) + [rng.choice(POOL) for at in range(rng.randint(1, 7))]
            expected = first_wrong(words)
            if expected is None:
                self.assertEqual(plain_show(read(" ".join(words))), " ".join(words))
            else:
                self.refused(expected, " ".join(words))


class ReadProgram(unittest.TestCase):
    def refused(self, line, at, *lines):
        error = refusal(self, NoLine, read_program, lines)
        self.assertIsInstance(error, LikeError)
        self.assertEqual((error.line, error.at), (line, at), lines)
        self.assertEqual(first_wrong_line(lines), (line, at), lines)

    def told(self, program, *lines):
        self.assertEqual(read_program(lines), program)
        self.assertIs(is_program(program), True)
        self.assertIsNone(first_wrong_line(lines))

    def test_no_line(self):
        self.refused(0, 0)

    def test_lines_without_signs(self):
        self.refused(0, 0, "")
        self.refused(0, 0, "", "")
        self.refused(0, 0, "", "x")
        self.refused(1, 0, "f : 1", "")

    def test_colons_and_names(self):
        self.refused(0, 1, "f", "x")
        self.refused(0, 3, "f x y", "x")
        self.refused(0, 2, "f x ( say x )", "x")
        self.refused(0, 2, "f x 1", "x")
        self.refused(0, 0, ": 1", "x")
        self.refused(0, 0, "F : 1", "x")
        self.refused(0, 0, "say : 1", "x")
        self.refused(0, 0, "ninechars : 1", "x")
        self.refused(0, 0, "( say x )", "x")
        self.refused(0, 0, "1", "x")
        self.refused(0, 2, "f :", "x")
        self.refused(0, 2, "f : ", "x")
        self.refused(0, 2, "f : :", "x")
        self.refused(0, 2, "f : : 1", "x")
        self.refused(0, 0, "f: 1", "x")
        self.refused(0, 1, "f :1", "x")
        self.refused(0, 1, "f  : 1", "x")
        self.refused(0, 2, "f x  : 1", "x")
        self.told(((("f", (), ONE),), X), "f : 1", "x")

    def test_a_name_that_a_function_ahead_has(self):
        self.refused(1, 0, "f : 1", "f : 2", "x")
        self.refused(2, 0, "f : 1", "g x : 2", "f x : 2", "x")
        self.refused(1, 0, "f : 1", "f : 1", "f : 1", "x")
        self.told(((("f", (), ONE), ("ff", ("f",), ONE)), X), "f : 1", "ff f : 1", "x")

    def test_params(self):
        self.refused(0, 2, "f x x : 1", "x")
        self.refused(0, 4, "f x y z y : 1", "x")
        self.refused(0, 7, "f a b c d e f g : 1", "x")
        self.refused(0, 7, "f a b c d e f 1 : 1", "x")
        self.refused(0, 7, "f a b c d e f a : 1", "x")
        self.refused(0, 7, "f a b c d e f", "x")
        self.refused(0, 2, "f x Y : 1", "x")
        self.refused(0, 2, "f x let : 1", "x")
        self.refused(0, 1, "f ninechars : 1", "x")
        self.told(((("f", tuple("abcdef"), ONE),), X), "f a b c d e f : 1", "x")

    def test_sets_of_what_is_bound(self):
        self.refused(0, 5, "f x : ( set x 1 )", "x")
        self.refused(0, 9, "f x y : ( do y ( set y 1 ) )", "x")
        self.refused(0, 8, "f : ( let x 1 ( set x 1 ) )", "x")
        self.refused(1, 6, "f : 1", "( let x 1 ( set x 1 ) )")
        self.refused(0, 13, "f x : ( do ( let x 1 x ) ( set x 1 ) )", "x")
        self.told(((("f", ("x",), ("set", "y", X)),), ("set", "x", ONE)), "f x : ( set y x )", "( set x 1 )")

    def test_calls(self):
        self.refused(0, 2, "( call f )")
        self.refused(0, 4, "f : ( call f )", "( call f )")
        self.refused(0, 4, "f : ( call g )", "g : 1", "1")
        self.refused(1, 2, "f : 1", "( call x )")
        self.refused(0, 2, "( call")
        self.refused(1, 3, "f x : 1", "( call f )")
        self.refused(1, 4, "f x y : 1", "( call f 1 )")
        self.refused(1, 4, "f x : 1", "( call f 1 2 )")
        self.refused(1, 4, "f x : 1", "( call f 1 ( say 2 ) )")
        self.refused(1, 3, "f : 1", "( call f 1 )")
        self.refused(1, 9, "f a b c d e f : 1", "( call f 1 2 3 4 5 6 7 )")
        self.refused(2, 8, "f x : x", "g : ( call f 1 )", "( call f ( say ( call g 1 ) ) )")
        self.refused(1, 4, "f x : 1", "( call f 1")
        self.told(((("f", ("x",), X), ("g", (), ("call", "f", ONE))), ("call", "f", ("call", "g"))), "f x : x", "g : ( call f 1 )", "( call f ( call g ) )")

    def test_words_that_lack_and_words_behind(self):
        self.refused(0, 4, "f : ( say", "x")
        self.refused(1, 2, "f : 1", "( say")
        self.refused(0, 3, "f : 1 2", "x")
        self.refused(1, 1, "f : 1", "x x")
        self.refused(0, 3, "f : 1 )", "x")
        self.refused(0, 3, "f : 1 ", "x")

    def test_a_function_s_line_as_main_s_and_the_other_way_about(self):
        self.refused(0, 1, "f : 1")
        self.refused(0, 1, "f x : 1")
        self.refused(0, 1, "x", "f : 1")
        self.refused(1, 1, "f : 1", "g : 1")
        self.refused(0, 1, "x", "x")

    def test_lines_twice_and_in_another_order(self):
        lines = ("f x : ( + x 1 )", "g y : ( call f y )", "( call g take )")
        read_program(lines)
        self.refused(0, 5, lines[1], lines[0], lines[2])
        self.refused(1, 0, lines[0], lines[0], lines[1], lines[2])
        self.refused(2, 0, lines[0], lines[1], lines[1], lines[2])
        self.refused(2, 0, lines[0], lines[1], lines[2], lines[2])
        self.refused(1, 0, lines[0], lines[2], lines[1])
        self.refused(0, 0, *lines[::-1])
        self.refused(1, 2, lines[0], lines[2])

    def test_the_first_line_that_is_not_right(self):
        self.refused(0, 2, "f x x : 1", "F : 1", "( say")
        self.refused(1, 0, "f x : 1", "F : 1", "( say")
        self.refused(2, 2, "f x : 1", "g : 1", "( say")

    def test_twelve_deep(self):
        text = "( do " * 11 + "x" + " )" * 11
        read_program((f"f : {text}", text))
        self.refused(0, 26, f"f : ( do {text} )", text)
        self.refused(1, 24, f"f : {text}", f"( do {text} )")

    def test_many_functions(self):
        lines = [f"a{chr(97 + k // 26)}{chr(97 + k % 26)} x : ( + x {k} )" for k in range(300)]
        functions, main = read_program(tuple(lines) + ("( call aln 1 )",))
        self.assertEqual((len(functions), main), (300, ("call", "aln", ONE)))

    def test_against_a_plain_second_way(self):
        rng = random.Random(364)
        seen = {}
        for program in some_programs(365, 400):
            lines = plain_lines(program)
            for again in range(8):
                changed = list(lines)
                for many in range(rng.randint(1, 2)):
                    at = rng.randint(0, len(changed) - 1)
                    changed[at] = " ".join(changed_words(rng, changed[at].split(" "), POOL))
                if rng.random() < 0.1:
                    rng.shuffle(changed)
                changed = tuple(changed)
                expected = first_wrong_line(changed)
                if expected is None:
                    found = read_program(changed)
                    self.assertIs(is_program(found), True)
                    self.assertEqual(plain_lines(found), changed)
                    seen["right"] = seen.get("right", 0) + 1
                else:
                    self.refused(expected[0], expected[1], *changed)
                    seen[expected[0]] = seen.get(expected[0], 0) + 1
        self.assertGreater(seen["right"], 200)
        self.assertGreater(min(seen[line] for line in range(4)), 50)


if __name__ == "__main__":
    unittest.main()
