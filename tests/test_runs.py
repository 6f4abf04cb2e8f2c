"""[18], [19]: how expressions are done, faults and outcomes."""

import copy
import random
import unittest

from likepieces.programs import is_program, work
from likepieces.runs import done, run
from tests.samples import NAMES, ONE, X, Y, chain, kids, some_expression, some_programs

TAKE = ("take",)
ZERO = ("num", 0)
NOUGHT = ("op", "/", ONE, ZERO)
NO_PROGRAM = ((), ZERO)


def num(k):
    return ("num", k)


def op(sign, one, other):
    return ("op", sign, one, other)


def say(*values):
    return tuple(("say", num(v)) for v in values)


class Fault(Exception):
    pass


class Plain:
    """A second way to do expressions: by recursion, a fault being raised."""

    def __init__(self, program, boxes, inputs):
        self.functions = {name: (params, body) for name, params, body in program[0]}
        self.boxes = dict(boxes)
        self.inputs = list(inputs)
        self.left = list(inputs)
        self.said = []

    def outcome(self, e, held):
        try:
            result = ("value", self.value(e, dict(held)))
        except Fault as fault:
            result = ("fault", fault.args[0])
        boxes = tuple(sorted((x, v) for x, v in self.boxes.items() if v))
        return (result, tuple(self.said), boxes, len(self.inputs) - len(self.left))

    def value(self, e, held):
        word = e[0]
        if word == "pick":
            return self.value(e[2] if self.value(e[1], held) else e[3], held)
        if word == "let":
            return self.value(e[3], {**held, e[1]: self.value(e[2], held)})
        if word == "again":
            return ([0] + [self.value(e[2], held) for at in range(e[1])])[-1]
        if word == "name":
            return held[e[1]] if e[1] in held else self.boxes.get(e[1], 0)
        if word == "take":
            if not self.left:
                raise Fault("dry")
            return self.left.pop(0)
        return self.made(e, [self.value(kid, held) for kid in kids(e)])

    def made(self, e, inner):
        word = e[0]
        if word == "num":
            return e[1]
        if word == "op":
            a, b = inner
            if e[1] == "/" and b == 0:
                raise Fault("nought")
            if e[1] == "/":
                return a // b
            return {"+": a + b, "-": a - b, "*": a * b, "<": int(a < b), "=": int(a == b)}[e[1]] % 10 ** 9
        if word == "set":
            self.boxes[e[1]] = inner[0]
        if word == "say":
            self.said.append(inner[0])
        if word == "call":
            params, body = self.functions[e[1]]
            return self.value(body, dict(zip(params, inner)))
        return inner[-1]


class Case(unittest.TestCase):
    def comes(self, e, value, said=(), boxes=(), taken=0, inputs=(), held=(), given=(), functions=()):
        """The expression comes to the value; as main too, where nothing is held or given."""
        told = (("value", value), said, boxes, taken)
        self.assertEqual(done((functions, ZERO), e, held, given, inputs), told, e)
        if held == () and given == ():
            self.assertEqual(run((functions, e), inputs), told, e)

    def faults(self, e, word, said=(), boxes=(), taken=0, inputs=(), held=(), given=(), functions=()):
        told = (("fault", word), said, boxes, taken)
        self.assertEqual(done((functions, ZERO), e, held, given, inputs), told, e)
        if held == () and given == ():
            self.assertEqual(run((functions, e), inputs), told, e)


class Done(Case):
    def test_num(self):
        for k in (0, 1, 7, 999999999):
            self.comes(num(k), k)

    def test_name(self):
        self.comes(X, 0)
        self.comes(X, 5, held=(("x", 5),))
        self.comes(X, 0, held=(("x", 0),), boxes=(("x", 3),), given=(("x", 3),))
        self.comes(X, 3, boxes=(("x", 3),), given=(("x", 3),))
        self.comes(X, 3, boxes=(("x", 3),), given=(("x", 3),), held=(("y", 9),))
        self.comes(Y, 4, boxes=(("x", 3),), given=(("x", 3), ("z", 0)), held=(("z", 9), ("y", 4)))

    def test_sum(self):
        for a, b, value in ((2, 3, 5), (0, 0, 0), (999999999, 1, 0), (999999999, 999999999, 999999998), (999999998, 1, 999999999)):
            self.comes(op("+", num(a), num(b)), value)

    def test_difference(self):
        for a, b, value in ((5, 3, 2), (3, 3, 0), (0, 1, 999999999), (3, 5, 999999998), (0, 999999999, 1), (999999999, 0, 999999999)):
            self.comes(op("-", num(a), num(b)), value)

    def test_product(self):
        for a, b, value in ((6, 7, 42), (0, 9, 0), (100000, 10000, 0), (999999999, 999999999, 1), (999999999, 2, 999999998)):
            self.comes(op("*", num(a), num(b)), value)

    def test_quotient(self):
        for a, b, value in ((6, 3, 2), (7, 2, 3), (2, 3, 0), (0, 5, 0), (999999999, 2, 499999999), (999999999, 1, 999999999), (5, 5, 1)):
            self.comes(op("/", num(a), num(b)), value)
        for a in (0, 1, 999999999):
            self.faults(op("/", num(a), ZERO), "nought")
            self.faults(op("/", num(a), X), "nought")

    def test_less_and_equal(self):
        for a, b in ((1, 2), (2, 1), (2, 2), (0, 999999999), (999999999, 0), (0, 0)):
            self.comes(op("<", num(a), num(b)), 1 if a < b else 0)
            self.comes(op("=", num(a), num(b)), 1 if a == b else 0)
        for sign in "<=":
            result = done(NO_PROGRAM, op(sign, ONE, ONE), (), (), ())[0]
            self.assertIs(type(result[1]), int)

    def test_both_parts_of_an_op_the_first_ahead(self):
        for sign in "+-*/<=":
            value = {"+": 9, "-": 5, "*": 14, "/": 3, "<": 0, "=": 0}[sign]
            self.comes(op(sign, ("say", num(7)), ("say", num(2))), value, said=(7, 2))
            self.comes(op(sign, TAKE, TAKE), value, taken=2, inputs=(7, 2, 4))
            self.comes(op(sign, ("set", "x", num(7)), op("-", X, num(5))), value, boxes=(("x", 7),))
            self.faults(op(sign, op("/", ("say", ONE), ZERO), ("say", num(2))), "nought", said=(1,))
        self.comes(op("*", ZERO, ("say", ONE)), 0, said=(1,))
        self.faults(op("/", ("say", ONE), ("say", ZERO)), "nought", said=(1, 0))

    def test_pick_does_one_of_the_two_alone(self):
        two, three = say(2, 3)
        for test in (1, 5, 999999999):
            self.comes(("pick", num(test), two, three), 2, said=(2,))
        self.comes(("pick", ZERO, two, three), 3, said=(3,))
        self.comes(("pick", X, ("set", "y", ONE), ("set", "z", num(4))), 4, boxes=(("z", 4),))
        self.comes(("pick", ("say", ONE), TAKE, NOUGHT), 8, said=(1,), taken=1, inputs=(8, 9))
        self.comes(("pick", ("set", "x", ZERO), NOUGHT, op("+", X, ONE)), 1)
        self.comes(("pick", ("pick", X, ONE, ZERO), NOUGHT, ("pick", ONE, num(6), NOUGHT)), 6)

    def test_let(self):
        self.comes(("let", "x", num(4), X), 4)
        self.comes(("let", "x", num(4), Y), 0)
        self.comes(("let", "x", ("say", num(4)), ("do", ("say", X), ("say", op("+", X, ONE)))), 5, said=(4, 4, 5))
        self.comes(("let", "x", ("say", ONE), num(2)), 2, said=(1,))

    def test_let_within_let_of_one_name(self):
        inner = ("let", "x", op("+", X, ONE), ("say", X))
        self.comes(("let", "x", num(4), ("do", ("say", X), inner, ("say", X))), 4, said=(4, 5, 4))
        self.comes(("let", "x", ("let", "x", num(4), op("+", X, X)), X), 8)
        self.comes(("let", "x", num(4), ("let", "y", num(5), ("let", "x", Y, op("-", op("*", X, num(10)), Y)))), 45)
        self.comes(("let", "x", num(4), op("+", ("let", "x", ONE, X), X)), 5)

    def test_let_and_the_box_of_its_name(self):
        e = ("do", ("set", "x", num(7)), ("let", "x", op("+", X, ONE), ("say", X)), X)
        self.comes(e, 7, said=(8,), boxes=(("x", 7),))
        self.comes(("let", "x", ("set", "x", num(3)), op("*", X, num(2))), 6, boxes=(("x", 3),))
        self.comes(("let", "x", X, op("+", X, ONE)), 4, boxes=(("x", 3),), given=(("x", 3),))

    def test_let_and_a_held_name(self):
        self.comes(("let", "x", op("+", X, ONE), X), 6, held=(("x", 5),))
        self.comes(op("+", ("let", "x", ONE, X), X), 6, held=(("x", 5),))
        self.comes(("let", "y", X, op("*", X, Y)), 25, held=(("x", 5),))
        self.comes(op("+", ("let", "x", ONE, X), X), 3, given=(("x", 2),), boxes=(("x", 2),))

    def test_let_and_a_param(self):
        f = ("f", ("x", "y"), ("do", ("let", "x", op("+", X, Y), ("say", X)), X))
        self.comes(("call", "f", num(3), num(4)), 3, said=(7,), functions=(f,))

    def test_set(self):
        self.comes(("set", "x", num(4)), 4, boxes=(("x", 4),))
        self.comes(("do", ("set", "x", num(4)), ("set", "x", op("+", X, X)), X), 8, boxes=(("x", 8),))
        self.comes(("set", "x", ("set", "y", num(4))), 4, boxes=(("x", 4), ("y", 4)))
        self.comes(("do", ("set", "x", num(4)), ("set", "x", ZERO)), 0)
        self.comes(("set", "x", ZERO), 0, given=(("x", 5),))
        self.comes(("set", "x", X), 5, given=(("x", 5), ("y", 0)), boxes=(("x", 5),))
        self.comes(("set", "y", X), 5, held=(("x", 5),), boxes=(("y", 5),))
        self.comes(("let", "y", num(2), ("set", "x", Y)), 2, boxes=(("x", 2),))

    def test_a_box_that_was_never_set(self):
        self.comes(("do", ("set", "x", num(4)), Y), 0, boxes=(("x", 4),))
        self.comes(op("=", Y, ZERO), 1)

    def test_say(self):
        self.comes(("say", num(4)), 4, said=(4,))
        self.comes(("say", ("say", ZERO)), 0, said=(0, 0))
        self.comes(("say", op("+", ("say", ONE), ("say", num(2)))), 3, said=(1, 2, 3))

    def test_take(self):
        for many in range(21):
            inputs = tuple(range(100, 100 + many))
            for taken in range(1, min(many, 6) + 1):
                self.comes(("do",) + (TAKE,) * taken, 99 + taken, taken=taken, inputs=inputs)
            self.faults(("again", 5, ("again", 5, TAKE)), "dry", taken=many, inputs=inputs)
        self.faults(TAKE, "dry")
        twenty = tuple(range(20))
        self.comes(("again", 5, ("again", 4, TAKE)), 19, taken=20, inputs=twenty)
        self.comes(TAKE, 0, taken=1, inputs=(0,))
        self.comes(ONE, 1, inputs=(5,))

    def test_do(self):
        for many in range(1, 7):
            self.comes(("do",) + say(*range(1, many + 1)), many, said=tuple(range(1, many + 1)))
        self.comes(op("+", num(10), ("do", num(20), num(30), num(1))), 11)
        self.comes(("do", ("do", ONE, num(2)), ("do", num(3))), 3)

    def test_again(self):
        for times in range(6):
            self.comes(("again", times, ("say", num(4))), 4 if times else 0, said=(4,) * times)
            count = ("again", times, ("set", "x", op("+", X, ONE)))
            self.comes(count, times, boxes=(("x", times),) if times else ())
            self.comes(("again", times, TAKE), (0, 9, 8, 7, 6, 5)[times], taken=times, inputs=(9, 8, 7, 6, 5, 4))
        self.comes(op("+", num(10), ("again", 3, ONE)), 11)
        self.comes(op("-", num(10), ("again", 0, NOUGHT)), 10)
        self.comes(("again", 2, ("again", 3, ("say", ONE))), 1, said=(1,) * 6)
        self.comes(("let", "x", ONE, ("again", 3, ("let", "x", op("+", X, X), X))), 2)

    def test_call(self):
        f = ("f", ("x", "y"), op("-", X, Y))
        self.comes(("call", "f", num(7), num(2)), 5, functions=(f,))
        self.comes(("call", "f", ("say", num(7)), ("say", num(2))), 5, said=(7, 2), functions=(f,))
        self.comes(("call", "f", TAKE, TAKE), 5, taken=2, inputs=(7, 2), functions=(f,))
        self.comes(("call", "f", ("call", "f", num(9), ONE), ("call", "f", num(3), ONE)), 6, functions=(f,))
        g = ("g", (), ("say", num(3)))
        self.comes(("do", ("call", "g"), ("call", "g")), 3, said=(3, 3), functions=(g,))

    def test_parts_of_a_call_ahead_of_its_body(self):
        f = ("f", ("x", "y"), ("do", ("say", num(9)), ("say", ("name", "z")), op("+", X, Y)))
        e = ("call", "f", ("set", "z", ("say", num(4))), ("say", ("name", "z")))
        self.comes(e, 8, said=(4, 4, 9, 4), boxes=(("z", 4),), functions=(f,))
        six = ("six", ("a", "b", "c", "d", "e", "g"), ("name", "e"))
        self.comes(("call", "six") + say(1, 2, 3, 4, 5, 6), 5, said=(1, 2, 3, 4, 5, 6), functions=(six,))

    def test_a_body_sees_its_params_and_the_boxes_alone(self):
        f = ("f", ("y",), ("do", ("say", X), ("say", Y), ("set", "x", op("+", X, Y))))
        e = ("let", "x", num(7), ("do", ("call", "f", X), ("call", "f", num(2)), X))
        self.comes(e, 7, said=(0, 7, 7, 2), boxes=(("x", 9),), functions=(f,))
        self.comes(("call", "f", X), 5, said=(0, 5), boxes=(("x", 5),), held=(("x", 5),), functions=(f,))
        g = ("g", ("x",), ("do", ("call", "f", num(1)), X))
        self.comes(("call", "g", num(6)), 6, said=(0, 1), boxes=(("x", 1),), functions=(f, g))
        self.comes(("let", "y", num(5), op("+", ("call", "f", ONE), Y)), 6, said=(0, 1), boxes=(("x", 1),), functions=(f,))

    def test_a_param_covers_the_box_of_its_name(self):
        f = ("f", ("x",), X)
        self.comes(("do", ("set", "x", num(8)), op("+", X, ("call", "f", ONE))), 9, boxes=(("x", 8),), functions=(f,))


class Faults(Case):
    """In each place where a part can stand, what is ahead of the fault stays told, nothing behind it is done."""

    def each_way(self, around, said_ahead, functions=()):
        """A fault of each word in the place of the hole of around, a def."""
        for fault, word, taken in ((NOUGHT, "nought", 0), (TAKE, "dry", 0), (("do", TAKE, TAKE), "dry", 1)):
            inputs = (6,) * taken
            inner = ("do", ("set", "kept", num(3)), ("say", num(50)), fault, ("say", num(51)), ("set", "kept", ONE))
            said = said_ahead + (50,)
            self.faults(around(inner), word, said, (("kept", 3),), taken, inputs, functions=functions)

    def test_op(self):
        one, two = say(1, 2)
        for sign in "+-*/<=":
            self.each_way(lambda e: op(sign, e, one), ())
            self.each_way(lambda e: op(sign, one, e), (1,))
            self.each_way(lambda e: ("say", op(sign, op(sign, two, one), e)), (2, 1))

    def test_pick(self):
        one, two = say(1, 2)
        self.each_way(lambda e: ("pick", e, one, two), ())
        self.each_way(lambda e: ("pick", one, e, two), (1,))
        self.each_way(lambda e: ("pick", ("say", ZERO), one, e), (0,))

    def test_let(self):
        one, two = say(1, 2)
        self.each_way(lambda e: ("let", "x", e, one), ())
        self.each_way(lambda e: ("do", ("let", "x", one, e), two), (1,))

    def test_set(self):
        self.each_way(lambda e: ("do", ("set", "x", e), ("say", ONE)), ())
        self.each_way(lambda e: ("set", "kept", e), ())

    def test_say(self):
        self.each_way(lambda e: ("say", e), ())

    def test_do(self):
        row = say(1, 2, 3, 4, 5, 6)
        for many in range(1, 7):
            for at in range(many):
                self.each_way(lambda e: ("do",) + row[:at] + (e,) + row[at + 1:many], tuple(range(1, at + 1)))

    def test_again(self):
        for times in range(1, 6):
            self.each_way(lambda e: ("again", times, e), ())
        late = ("again", 5, ("do", ("say", ("set", "x", op("+", X, ONE))), op("/", ONE, op("-", num(3), X))))
        self.faults(late, "nought", (1, 2, 3), (("x", 3),))
        self.faults(("again", 4, ("say", TAKE)), "dry", (5, 6), (), 2, (5, 6))

    def test_call(self):
        f = ("f", ("x", "y", "z"), ("say", num(9)))
        row = say(1, 2, 3)
        for at in range(3):
            self.each_way(lambda e: ("call", "f") + row[:at] + (e,) + row[at + 1:], tuple(range(1, at + 1)), (f,))

    def test_body_of_a_call(self):
        for fault, word in ((NOUGHT, "nought"), (TAKE, "dry")):
            f = ("f", ("x",), ("do", ("set", "z", X), ("say", X), fault, ("say", ONE)))
            g = ("g", (), ("do", ("call", "f", ("say", num(4))), ("say", num(5))))
            self.faults(("do", ("call", "g"), ("say", num(6))), word, (4, 4), (("z", 4),), functions=(f, g))

    def test_nought_ahead_of_dry_and_the_other_way(self):
        self.faults(op("+", NOUGHT, TAKE), "nought")
        self.faults(op("+", TAKE, NOUGHT), "dry")
        self.faults(op("/", TAKE, TAKE), "nought", taken=2, inputs=(4, 0, 3))
        self.faults(op("/", TAKE, TAKE), "dry", taken=1, inputs=(4,))


class Outcomes(Case):
    def test_boxes_by_names_without_those_that_hold_0(self):
        e = ("do", ("set", "b", ONE), ("set", "ab", num(2)), ("set", "a", num(3)), ("set", "c", num(4)), ("set", "c", ZERO))
        self.comes(e, 0, boxes=(("a", 3), ("ab", 2), ("b", 1)))
        self.comes(("set", "m", ONE), 1, boxes=(("k", 5), ("m", 1), ("z", 7)), given=(("z", 7), ("a", 0), ("k", 5)))

    def test_run_is_from_boxes_that_all_hold_0(self):
        program = ((), ("set", "x", op("+", X, ONE)))
        for at in range(2):
            self.assertEqual(run(program, ()), (("value", 1), (), (("x", 1),), 0))
        self.assertEqual(done(program, program[1], (), (("x", 4),), ()), (("value", 5), (), (("x", 5),), 0))

    def test_done_is_of_any_expression_not_of_main(self):
        program = ((("f", ("x",), op("*", X, X)),), NOUGHT)
        self.assertEqual(done(program, ("call", "f", num(6)), (), (), ()), (("value", 36), (), (), 0))
        self.assertEqual(run(program, (1, 2)), (("fault", "nought"), (), (), 0))

    def test_kinds(self):
        told = run(((), ("do", ("set", "x", ONE), ("say", TAKE))), (3,))
        self.assertEqual(told, (("value", 3), (3,), (("x", 1),), 1))
        self.assertEqual([type(thing) for thing in told], [tuple, tuple, tuple, int])
        self.assertIs(type(told[2][0]), tuple)

    def test_like_a_second_way(self):
        rng = random.Random(5)
        kinds = {}
        for program in some_programs(7, 600):
            self.assertIs(is_program(program), True)
            if work(program) > 2000:
                continue
            inputs = tuple(rng.choice((0, 1, 2, 3, 999999999)) for at in range(rng.choice((0, 1, 2, 5, 20))))
            told = run(program, inputs)
            self.assertEqual(told, Plain(program, (), inputs).outcome(program[1], ()), program)
            kinds[told[0][0] if told[0][0] == "value" else told[0][1]] = True
        self.assertEqual(sorted(kinds), ["dry", "nought", "value"])

    def test_like_a_second_way_with_names_held(self):
        rng = random.Random(6)
        for at in range(600):
            e = some_expression(rng, rng.randint(2, 5))
            if any(node[0] == "call" for node in nodes_of(e)):
                continue
            sets = {node[1] for node in nodes_of(e) if node[0] == "set"}
            held = tuple((x, rng.randint(0, 9)) for x in NAMES if x not in sets and rng.random() < 0.5)
            boxes = tuple((x, rng.randint(0, 3)) for x in NAMES if rng.random() < 0.5)
            inputs = tuple(rng.randint(0, 3) for at in range(rng.randint(0, 5)))
            kept = copy.deepcopy((e, held, boxes, inputs))
            told = done(NO_PROGRAM, e, held, boxes, inputs)
            self.assertEqual(told, Plain(NO_PROGRAM, boxes, inputs).outcome(e, held), e)
            self.assertEqual((e, held, boxes, inputs), kept)

    def test_however_deep(self):
        self.assertEqual(run(((), ("let", "x", num(4), chain(5000))), ())[0], ("value", 4))
        e = ("take",)
        for at in range(1500):
            e = op("+", ONE, e)
        self.assertEqual(run(((), e), (5,))[0], ("value", 1505))
        functions = (("q" * 8, ("x",), op("+", X, ONE)),)
        call = ONE
        for at in range(1500):
            call = ("call", "q" * 8, call)
        self.assertEqual(run((functions, call), ())[0], ("value", 1501))
        many = (("fa", ("x",), op("+", X, ONE)),)
        for at in range(400):
            name = "g" + "abcdefghijklmnopqrst"[at // 20] + "abcdefghijklmnopqrst"[at % 20]
            many += ((name, ("x",), op("+", ("call", many[-1][0], X), ONE)),)
        self.assertEqual(run((many, ("call", many[-1][0], ONE)), ())[0], ("value", 402))


def nodes_of(e):
    told = [e]
    for kid in kids(e):
        told.extend(nodes_of(kid))
    return told


if __name__ == "__main__":
    unittest.main()
