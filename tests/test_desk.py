"""[37] and the rows of the interface: a desk."""

import random
import re
import unittest

from likepieces.backs import same_program
from likepieces.desk import Desk
from likepieces.errors import LikeError, NoFunction, NoLine, NoPlace, NoPlaces, NoRow
from likepieces.likes import alike
from likepieces.pieces import piece_at, places_of
from likepieces.programs import is_program, work
from likepieces.reading import read, read_program
from likepieces.runs import run
from likepieces.savings import size
from likepieces.tables import great
from likepieces.trees import deep
from tests.backing import bodies, plain_answer, scopes, scopes_back
from tests.papers import is_apart
from tests.samples import each_path, refusal, some_programs
from tests.wording import first_wrong, plain_lines

LINES = ("f x : ( + x 1 )", "g a b : ( let k ( call f a ) ( say ( * k b ) ) )")
MAIN = "( do ( say ( * x 5 ) ) ( say ( * take 7 ) ) ( set y ( call g take x ) ) ( set z 0 ) )"


def desk_of(*lines):
    """A desk that was told these lines, main's last."""
    desk = Desk()
    for line in lines[:-1]:
        desk.say(f"fun {line}")
    desk.say(f"main {lines[-1]}")
    return desk


def shown(desk):
    """The program of a desk, by what it shows."""
    return read_program(tuple(desk.say("show").split(" | ")))


def word_of(place):
    return ".".join(str(number) for number in (place[0],) + place[1])


class Case(unittest.TestCase):
    def refused(self, kind, desk, row):
        """The row is refused so, and nothing changes."""
        before = desk.say("show")
        error = refusal(self, kind, desk.say, row)
        self.assertIsInstance(error, LikeError)
        self.assertEqual(desk.say("show"), before)
        return error

    def says(self, desk, *rows):
        """The desk answers these rows, each ahead of its answer."""
        for row, answer in zip(rows[::2], rows[1::2]):
            self.assertEqual(desk.say(row), answer, row)


class Rows(Case):
    def test_a_new_desk(self):
        desk = Desk()
        self.says(desk, "show", "0", "run", "value 0 said boxes taken 0", "run 1 2", "value 0 said boxes taken 0", "great 1", "-",
                  "alike 0 0", "-", "show", "0")

    def test_fun_and_main_and_show(self):
        desk = Desk()
        self.says(desk, "fun f : take", "ok", "show", "f : take | 0")
        self.says(desk, "fun g a b c d e f : ( - a ( call f ) )", "ok", "show", "f : take | g a b c d e f : ( - a ( call f ) ) | 0")
        self.says(desk, "main ( call g 1 2 3 4 5 6 )", "ok", "show", "f : take | g a b c d e f : ( - a ( call f ) ) | ( call g 1 2 3 4 5 6 )")
        self.says(desk, "fun h : ( call g 1 2 3 4 5 x )", "ok", "main ( call h )", "ok", "main 7", "ok")
        self.says(desk, "show", "f : take | g a b c d e f : ( - a ( call f ) ) | h : ( call g 1 2 3 4 5 x ) | 7")
        self.says(desk, "fun x x : x", "ok", "main ( call x x )", "ok")

    def test_run(self):
        desk = desk_of(*LINES, MAIN)
        self.says(desk, "run", "fault dry said 0 boxes taken 0", "run 3", "fault dry said 0 21 boxes taken 1",
                  "run 3 4", "value 0 said 0 21 0 boxes taken 2", "run 3 4 5", "value 0 said 0 21 0 boxes taken 2")
        desk = desk_of("( do ( set b 7 ) ( set a take ) ( set ab 0 ) ( say ( set c ( / 9 a ) ) ) )")
        self.says(desk, "run", "fault dry said boxes b=7 taken 0", "run 0", "fault nought said boxes b=7 taken 1",
                  "run 2", "value 4 said 4 boxes a=2 b=7 c=4 taken 1", "run 999999999", "value 0 said 0 boxes a=999999999 b=7 taken 1")
        twenty = desk_of("( do " + "( again 5 ( say take ) ) " * 4 + ")")
        values = " ".join(str(k) for k in range(20))
        self.says(twenty, f"run {values}", f"value 19 said {values} boxes taken 20")
        self.refused(NoRow, twenty, f"run {values} 20")

    def test_alike(self):
        desk = desk_of("( do ( say ( + x y ) ) ( say ( + y x ) ) ( say ( + x x ) ) ( say ( + 1 2 ) ) ( say ( + 1 2 ) ) ( let k x ( set k2 k ) ) )".replace("k2", "kk"))
        self.says(desk, "alike 0.0 0.1", "x>y y>x", "alike 0.0 0.0", "x>x y>y", "alike 0.0 0.2", "unlike", "alike 0.2 0.0", "unlike",
                  "alike 0.3 0.4", "-", "alike 0.3.0 0.4.0", "-", "alike 0.0.0.0 0.2.0.1", "x>x", "alike 0.0.0.1 0.2.0.1", "y>x", "alike 0 0.1", "unlike",
                  "alike 0.5.1 0.5.1", "kk>kk k>k", "alike 0 0", "x>x y>y kk>kk")
        desk = desk_of(*LINES, MAIN)
        self.says(desk, "alike 0 0", "x>x", "alike 1.1 1.1", "k>k b>b", "alike 1.1.0 2.0.0", "unlike", "alike 0.0 2.0.0.0", "x>x", "alike 1.1.0.0 0.0", "k>x")

    def test_great(self):
        desk = desk_of("( do ( say ( + x 1 ) ) ( say ( + y 1 ) ) x )")
        self.says(desk, "great 1", "0.0 0.1 | 0.0.0.0 0.1.0.0 0.2", "great 2", "0.0 0.1", "great 4", "0.0 0.1", "great 5", "-", "great 999999999999999999", "-")
        desk = desk_of("f x : ( + x 1 )", "g : 2", "( say ( + take ( + y 1 ) ) )")
        self.says(desk, "great 3", "0 2.0.1", "great 2", "0 2.0.1")
        self.says(desk, "great " + "9" * 3990, "-")

    def test_put(self):
        desk = desk_of(*LINES, MAIN)
        before = shown(desk)
        answer = desk.say("put 1.1 2.0 2.1")
        self.assertRegex(answer, r"^put [a-z]{1,8} saving -?[0-9]+$")
        word, name, saving, many = answer.split(" ")
        after = shown(desk)
        self.assertEqual(size(before) - size(after), int(many))
        self.assertEqual(len(after[0]), 3)
        self.assertIn(name, [function[0] for function in after[0]])
        self.says(desk, "run 3 4", "value 0 said 0 21 0 boxes taken 2", f"back {name}", "ok")
        self.assertIs(same_program(shown(desk), before), True)

    def test_put_saves_above_and_below_0(self):
        piece = "( say ( * ( - {} 1 ) ( / 2 7 ) ) )"
        for many, told in ((2, 2), (3, 8), (6, 26)):
            desk = desk_of("( do " + " ".join(piece.format(k) for k in range(many)) + " )")
            self.assertRegex(desk.say("put " + " ".join(f"0.{k}" for k in range(many))), f"^put [a-z]+ saving {told}$")
        desk = desk_of("( do ( + x 1 ) ( + 2 1 ) )")
        self.assertRegex(desk.say("put 0.0 0.1"), "^put [a-z]+ saving -3$")
        desk = desk_of("( do ( + x 1 ) ( + x 1 ) )")
        self.assertRegex(desk.say("put 0.0 0.1"), "^put [a-z]+ saving 0$")

    def test_not(self):
        desk = desk_of("( do ( do 1 2 ) ( say 1 ) ( again 2 take ) ( again 2 1 ) ( let k 1 ( + x k ) ) ( let k 1 ( + x y ) ) )")
        self.says(desk, "put 0.0 0.1", "not hole 0", "put 0.2 0.3", "not once 0", "put 0.4 0.5", "not bound 0", "put 0.4.0 0.5.0 0.5.1", "not hole 0")
        desk = desk_of("( do ( do ( say 1 ) 2 ) ( do ( say 1 ) take ) ( do ( do 1 2 3 4 ) ( do 5 6 7 8 ) ) ( do ( do x y x y ) ( do y x 1 2 ) ) )")
        self.says(desk, "put 0.0 0.1", "not clash 0", "put 0.2 0.3", "not many 8")
        self.assertRegex(desk.say("put 0.2.0 0.2.1 0.3.0 0.3.1"), "^put [a-z]+ saving -10$")

    def test_back(self):
        desk = desk_of(*LINES, MAIN)
        self.says(desk, "back f", "ok", "show", f"g a b : ( let k ( + a 1 ) ( say ( * k b ) ) ) | {MAIN}")
        self.assertEqual(self.refused(NoFunction, desk, "back f").name, "f")
        self.says(desk, "run 3 4", "value 0 said 0 21 0 boxes taken 2", "back g", "ok")
        self.assertEqual(shown(desk)[0], ())
        for name in ("f", "g", "x", "k", "main", "fun", "nobody"):
            self.assertEqual(self.refused(NoFunction, desk, f"back {name}").name, name)

    def test_back_of_one_that_was_put(self):
        desk = desk_of("( do ( say ( * x 5 ) ) ( say ( * take 7 ) ) )")
        name = desk.say("put 0.0 0.1").split(" ")[1]
        self.says(desk, "run 2", "value 14 said 0 14 boxes taken 1", f"back {name}", "ok", "show", "( do ( say ( * x 5 ) ) ( say ( * take 7 ) ) )")
        self.assertEqual(self.refused(NoFunction, desk, f"back {name}").name, name)

    def test_told_again_by_the_same_name(self):
        desk = desk_of("f : 1", "( call f )")
        self.assertEqual(self.refused(NoLine, desk, "fun f : 2").at, 0)
        self.says(desk, "back f", "ok", "fun f x : ( + x 2 )", "ok", "show", "f x : ( + x 2 ) | 1", "main ( call f 3 )", "ok", "run", "value 5 said boxes taken 0")
        self.says(desk, "main ( do ( say ( * x 5 ) ) ( say ( * 2 7 ) ) )", "ok")
        name = desk.say("put 1.0 1.1").split(" ")[1]
        error = self.refused(NoLine, desk, f"fun {name} : 2")
        self.assertEqual((error.line, error.at), (2, 0))
        self.says(desk, f"back {name}", "ok", f"fun {name} : 2", "ok")

    def test_many_functions(self):
        desk = Desk()
        names = ["h" + chr(97 + k // 26) + chr(97 + k % 26) for k in range(60)]
        self.says(desk, f"fun {names[0]} x : ( + x 1 )", "ok")
        for below, name in zip(names, names[1:]):
            self.says(desk, f"fun {name} x : ( call {below} x )", "ok")
        self.says(desk, f"main ( call {names[-1]} take )", "ok", "run 4", "value 5 said boxes taken 1")
        for name in names:
            self.says(desk, f"back {name}", "ok")
        self.says(desk, "show", "( + take 1 )", "run 4", "value 5 said boxes taken 1")

    def test_deeper_and_greater_than_a_text(self):
        desk = desk_of("f x : " + "( do " * 11 + "x" + " )" * 11, "( call f ( call f ( call f take ) ) )")
        self.says(desk, "back f", "ok", "show", "( do " * 33 + "take" + " )" * 33, "run 7", "value 7 said boxes taken 1", "great 1", "-")
        # What stands is not read anew.
        self.says(desk, "fun g : 1", "ok", "run 7", "value 7 said boxes taken 1", "back g", "ok", "show", "( do " * 33 + "take" + " )" * 33)

    def test_a_great_work_that_is_not_run(self):
        lines = ["a : ( again 5 1 )"] + [f"{name} : ( again 5 ( do ( call {below} ) ( call {below} ) ) )" for below, name in zip("abcdefghij", "bcdefghijk")]
        desk = desk_of(*lines, "( call k )")
        self.assertGreater(work(shown(desk)), 10 ** 9)
        self.says(desk, "alike 1 2", "unlike", "back a", "ok", "main 3", "ok", "run", "value 3 said boxes taken 0")


class Refused(Case):
    def desk(self):
        return desk_of(*LINES, MAIN)

    def test_unknown_first_words(self):
        for row in ("", " ", "  ", "x", "Show", "shows", "sho", "SHOW", "0", "1.0", "do", "say", "take", "put_", "fu", "funs", "funx : 1", "mains 1", "Main 1",
                    "FUN f : 1", ":", "|", "-", "not", "ok", "(", " show", " fun f : 1", " main 1", "quit", "help", "fun:", "main;", "table 1", "offers 1"):
            self.refused(NoRow, self.desk(), row)

    def test_words_too_few_and_too_many(self):
        for row in ("show 1", "show x", "show ", "show  ", "show show", "alike", "alike 0", "alike 0 0 0", "alike ", "alike 0 ", "great", "great 1 2", "great ",
                    "put", "put 0", "put ", "put 2.0 ", "back", "back ", "back f g", "back f ", "run ", "run 1 ", "run  1"):
            self.refused(NoRow, self.desk(), row)

    def test_blanks_too_many(self):
        for row in ("show ", "run  1", "run 1  2", "run 1 2 ", "alike  0 0", "alike 0  0", "alike 0 0 ", "great  1", "great 1 ", "put  2.0 2.1", "put 2.0  2.1",
                    "put 2.0 2.1 ", "back  f", "back f "):
            self.refused(NoRow, self.desk(), row)

    def test_values_and_numbers_ill_written(self):
        for word in ("01", "00", "-1", "+1", "1.0", "x", "1000000000", "1e3", "1,2", "", "0x1", "9" * 4000):
            self.refused(NoRow, self.desk(), f"run {word}")
            self.refused(NoRow, self.desk(), f"run 1 {word}")
            self.refused(NoRow, self.desk(), f"run {word} 1")
        for word in ("0", "00", "01", "-1", "+1", "1.0", "x", "", "1e3", "-"):
            self.refused(NoRow, self.desk(), f"great {word}")
        self.refused(NoRow, self.desk(), "run" + " 1" * 21)
        self.says(self.desk(), "run" + " 1" * 20, "value 0 said 0 7 0 boxes taken 2", "great 1000000000", "-")

    def test_places_ill_written(self):
        for word in ("", ".", "0.", ".0", "00", "01", "0.00", "0.01", "0..1", "-1", "0.-1", "+0", "0,1", "x", "0.x", "0.1.", "(0,())", "0:1", "()", "0/1", "1.0e1"):
            for row in ("alike {} 0", "alike 0 {}", "alike 99 {}", "alike {} 99", "put {} 2.1", "put 2.0 {}", "put 2.0 2.1 {}", "put 99 {}", "put {} {}"):
                self.refused(NoRow, self.desk(), row.replace("{}", word))

    def test_names_ill_written(self):
        for word in ("F", "f1", "", "ninechars", "num", "let", "take", "hole", "f.g", "0", "1", "f:", ":", "("):
            self.refused(NoRow, self.desk(), f"back {word}")

    def test_ahead_of_all_else(self):
        """A row that is none is refused so, though its places lead nowhere, too."""
        for row in ("alike 99 98 97", "put 99", "put 99 01", "put 2.0 2.0 x", "back nobody x", "alike 9.9 x", "run 1000000000 x"):
            self.refused(NoRow, self.desk(), row)

    def test_places_that_lead_nowhere(self):
        desk = self.desk()
        for row, place in (("alike 3 0", (3, ())), ("alike 0 3", (3, ())), ("alike 9 8", (9, ())), ("alike 0.2 9", (0, (2,))), ("alike 0 0.0.0", (0, (0, 0))),
                           ("alike 2.0.0.0.0 0.9", (2, (0, 0, 0, 0))), ("alike 0 99999999999999999999.1", (99999999999999999999, (1,))),
                           ("alike 2.4 2.5", (2, (4,))), ("alike 0." + "9" * 3980 + " 0", (0, (10 ** 3980 - 1,)))):
            error = self.refused(NoPlace, desk, row)
            self.assertEqual(error.place, place)
            self.assertEqual((type(error.place), type(error.place[1])), (tuple, tuple))

    def test_no_places(self):
        for row in ("put 3 4", "put 2.0 3", "put 2.0 2.0", "put 2.1 2.0", "put 2 2.0", "put 2.0 2.0.0", "put 2.0 2.1 2.1.0", "put 0.9 2.0", "put 2.0 2.9",
                    "put 2.0 0.0", "put 0 0.0 2.0", "put 2.0 99999999999999999999"):
            self.refused(NoPlaces, self.desk(), row)

    def line(self, desk, row, line, at):
        error = self.refused(NoLine, desk, row)
        self.assertEqual((error.line, error.at), (line, at), row)

    def test_lines_that_are_not_right(self):
        for row, at in (("fun", 0), ("main", 0), ("fun ", 0), ("main ", 0), ("fun  ", 0), ("main  ", 0), ("main  1", 0), ("fun  h : 1", 0), ("main 1 ", 1),
                        ("main 1 2", 1), ("fun h", 1), ("fun h x", 2), ("fun h x y", 3), ("fun h : ", 2), ("fun h :", 2), ("fun : 1", 0), ("fun H : 1", 0),
                        ("fun f : 1", 0), ("fun g : 1", 0), ("fun h x x : 1", 2), ("fun h a b c d e f i : 1", 7), ("fun h x : ( set x 1 )", 5),
                        ("fun h : ( call h )", 4), ("fun h : ( call i 1 )", 4), ("fun h : ( call f )", 5), ("fun h : ( call f 1 2 )", 6), ("main ( call x 1 )", 2),
                        ("main ( call f )", 3), ("main ( call f 1 2 )", 4), ("main ( call g 1 )", 4), ("main ( let x 1 ( set x 2 ) )", 6), ("main ( say", 2),
                        ("main h : 1", 1), ("fun ( say 1 )", 0), ("main :", 0), ("main main 1", 1), ("fun fun : 1 2", 3), ("main " + "( do " * 12 + "x" + " )" * 12, 24)):
            self.line(self.desk(), row, 2, at)
        self.line(Desk(), "fun", 0, 0)
        self.line(Desk(), "main", 0, 0)
        self.line(Desk(), "main ( call f )", 0, 2)
        desk = desk_of("a : 1", "b : 1", "c : 1", "d : 1", "e : 1", "2")
        self.line(desk, "fun a : 1", 5, 0)
        self.line(desk, "main ( call f )", 5, 2)

    def test_main_s_calls_when_a_function_is_gone(self):
        desk = self.desk()
        self.says(desk, "back f", "ok")
        self.line(desk, "main ( call f 1 )", 1, 2)
        self.says(desk, "main ( call g 1 2 )", "ok", "back g", "ok")
        self.line(desk, "main ( call g 1 2 )", 0, 2)


class Desks(Case):
    def test_two_know_nothing_of_one_another(self):
        one, other = Desk(), Desk()
        self.says(one, "fun f : 1", "ok", "main ( call f )", "ok")
        self.says(other, "show", "0")
        self.says(other, "fun f x : x", "ok", "main ( say ( call f 2 ) )", "ok")
        self.says(one, "show", "f : 1 | ( call f )", "back f", "ok", "show", "1")
        self.says(other, "show", "f x : x | ( say ( call f 2 ) )", "run", "value 2 said 2 boxes taken 0")
        self.says(Desk(), "show", "0")

    def test_runs_leave_the_boxes_empty(self):
        desk = desk_of("( set x ( + x 1 ) )")
        for again in range(3):
            self.says(desk, "run", "value 1 said boxes x=1 taken 0")

    def told(self, outcome):
        """The text of an outcome, by the words of the interface."""
        (kind, result), said, boxes, taken = outcome
        text = f"{kind} {result} said"
        for number in said:
            text += f" {number}"
        text += " boxes"
        for name, number in boxes:
            text += f" {name}={number}"
        return f"{text} taken {taken}"

    def step(self, rng, desk, program):
        """One row said to a desk with this program, and the program then."""
        choice = rng.choice(("fun", "main", "run", "alike", "great", "put", "put", "back", "show", "wrong"))
        deed = getattr(self, f"step_{choice}")
        return deed(rng, desk, program)

    def step_fun(self, rng, desk, program):
        line = rng.choice(("h x : ( + x y )", "k : ( say take )", "m x y : ( pick x y ( / x y ) )", "f x : ( call h x )", "n x : ( set x 1 )"))
        return self.step_line(desk, program, "fun", line)

    def step_main(self, rng, desk, program):
        donor = rng.choice(some_programs(rng.randint(0, 200), 1, most_functions=0))
        line = rng.choice((plain_lines(donor)[0], "( do ( call h take ) ( say ( call k ) ) )", "( call f ( + x 1 ) )", "( say ( call m 1 2 )"))
        return self.step_line(desk, program, "main", line)

    def step_line(self, desk, program, word, line):
        functions, main = program
        counts = {name: len(params) for name, params, body in functions}
        at = first_wrong(line.split(" "), counts, "fun" if word == "fun" else "E")
        if at is not None:
            error = self.refused(NoLine, desk, f"{word} {line}")
            self.assertEqual((error.line, error.at), (len(functions), at))
            return program
        self.says(desk, f"{word} {line}", "ok")
        if word == "main":
            return (functions, read(line))
        (name, *params), text = [side.split(" ") if at == 0 else side for at, side in enumerate(line.split(" : "))]
        return (functions + ((name, tuple(params), read(text)),), main)

    def step_run(self, rng, desk, program):
        if work(program) <= 2000:
            values = tuple(rng.randint(0, 9) for at in range(rng.randint(0, 20)))
            self.says(desk, " ".join(["run"] + [str(value) for value in values]), self.told(run(program, values)))
        return program

    def step_alike(self, rng, desk, program):
        one, other = [rng.choice(places_of(program, 1)) for at in range(2)]
        pairs = alike(piece_at(program, one), piece_at(program, other))
        answer = "unlike" if pairs is None else " ".join(f"{x}>{y}" for x, y in pairs) or "-"
        self.says(desk, f"alike {word_of(one)} {word_of(other)}", answer)
        return program

    def step_great(self, rng, desk, program):
        least = rng.randint(1, 6)
        groups = [" ".join(word_of(place) for place in places) for places in great(program, least)]
        self.says(desk, f"great {least}", " | ".join(groups) or "-")
        return program

    def step_put(self, rng, desk, program):
        pool = list(great(program, rng.randint(1, 4)))
        some = tuple(sorted(rng.sample(places_of(program, 1), min(2, len(places_of(program, 1))))))
        pool += [some] if len(some) > 1 and is_apart(some[1], some[:1]) else []
        if not pool:
            return program
        places = rng.choice(pool)
        row = "put " + " ".join(word_of(place) for place in places)
        expected = plain_answer(program, places)
        if expected[0] == "not":
            self.says(desk, row, f"not {expected[1]} {expected[2]}")
            return program
        found = re.match(r"^put ([a-z]+) saving (-?[0-9]+)$", desk.say(row))
        self.assertIsNotNone(found)
        after = desk.program
        self.assertEqual(size(program) - size(after), int(found.group(2)))
        self.assertEqual(len(after[0]), len(program[0]) + 1)
        self.assertEqual(scopes_back(after, found.group(1)), scopes(program))
        for row in ((), (1, 2, 3)) if work(program) <= 2000 else ():
            self.assertEqual(run(after, row), run(program, row))
        return after

    def step_back(self, rng, desk, program):
        names = [function[0] for function in program[0]] + ["nobody"]
        name = rng.choice(names)
        if name == "nobody":
            self.assertEqual(self.refused(NoFunction, desk, "back nobody").name, "nobody")
            return program
        expected = scopes_back(program, name)
        if sum(len(each_path(body)) for other, many, body in expected) > 1000:
            return program
        self.says(desk, f"back {name}", "ok")
        self.assertEqual(scopes(desk.program), expected)
        return desk.program

    def step_show(self, rng, desk, program):
        self.says(desk, "show", " | ".join(plain_lines(program)))
        return program

    def step_wrong(self, rng, desk, program):
        self.refused(NoRow, desk, rng.choice(("", "show 1", "put 0", "run x", "great 0", "alike 0", "back F", "nothing")))
        last = len(program[0])
        self.assertEqual(self.refused(NoPlace, desk, f"alike {last + 1} 0").place, (last + 1, ()))
        self.refused(NoPlaces, desk, f"put {last} {last}")
        return program

    def test_long_rows_of_work(self):
        rng = random.Random(371)
        for program in some_programs(372, 80):
            if max(deep(body) for body in bodies(program)) > 12:
                continue
            desk = desk_of(*plain_lines(program))
            for again in range(40):
                program = self.step(rng, desk, program)
                self.assertIs(is_program(program), True)
                self.assertEqual(desk.say("show"), " | ".join(plain_lines(program)))


if __name__ == "__main__":
    unittest.main()
