"""[34], [3]: the boxes' names of a program, and the program with other names."""

import copy
import random
import unittest

from likepieces.backs import same_program
from likepieces.errors import LikeError, NoExchange
from likepieces.programs import is_program, work
from likepieces.renaming import box_names, exchanged_program
from likepieces.runs import run
from likepieces.savings import offers
from likepieces.tables import great, table
from tests.backing import marked, scopes
from tests.samples import NAMES, ONE, X, Y, chain, each_path, nested, refusal, renamed_bare, some_programs

TAKE = ("take",)
TWO = ("num", 2)
A, P, Z = ("name", "a"), ("name", "p"), ("name", "z")
INPUTS = ((), (0,), (3, 0), (7, 6, 5, 4, 3, 2, 1), tuple(range(20)))


def op(one, other):
    return ("op", "+", one, other)


def plain_boxes(program):
    found = set()
    for name, count, body in scopes(program):
        found |= {node[1] for path, node in each_path(body) if node[0] in ("name", "set")}
    return tuple(sorted(found))


class Boxes(unittest.TestCase):
    def told(self, program, *names):
        self.assertIs(is_program(program), True)
        self.assertEqual(box_names(program), names)
        self.assertIs(type(box_names(program)), tuple)

    def test_sorted_and_each_once(self):
        self.told(((), ONE))
        self.told(((), ("do", Z, X, A, Z, X)), "a", "x", "z")
        self.told(((("f", (), Y),), op(Z, ("do", Y, A))), "a", "y", "z")
        self.told(((), ("do", ("name", "ab"), ("name", "b"), A, ("name", "aa"))), "a", "aa", "ab", "b")

    def test_sets_alone(self):
        self.told(((), ("set", "y", ("set", "x", ONE))), "x", "y")
        self.told(((("f", (), ("set", "b", TAKE)),), ("do", ("set", "a", ONE))), "a", "b")

    def test_names_that_are_bound_elsewhere(self):
        self.told(((("f", ("x",), X),), ONE))
        self.told(((("f", ("x",), X), ("g", (), X)), ONE), "x")
        self.told(((("f", (), X), ("g", ("x",), X)), ONE), "x")
        self.told(((("f", ("x",), X),), X), "x")
        self.told(((), ("let", "x", ONE, X)))
        self.told(((), ("let", "x", X, X)), "x")
        self.told(((("f", (), ("let", "y", ONE, Y)),), Y), "y")
        self.told(((("f", ("x",), ("let", "y", X, op(X, Y))),), ("do", ("set", "x", ONE), Y)), "x", "y")

    def test_functions_and_params_are_no_boxes(self):
        self.told(((("f", ("p", "q"), ONE), ("x", (), ONE)), ("call", "f", ONE, ("call", "x"))))
        self.told(((("f", (), ("name", "f")),), ("call", "f")), "f")

    def test_by_chance(self):
        for program in some_programs(341, 300):
            self.told(program, *plain_boxes(program))


class Exchanges(unittest.TestCase):
    def becomes(self, program, pairs):
        """By the pairs the program becomes, but for bound names, what the words say; what it becomes is told."""
        self.assertIs(is_program(program), True)
        kept = copy.deepcopy((program, pairs))
        found = exchanged_program(program, pairs)
        self.assertEqual((program, pairs), kept)
        self.assertIs(is_program(found), True, (program, pairs, found))
        expected = [(name, count, renamed_bare(body, dict(pairs))) for name, count, body in scopes(program)]
        self.assertEqual(scopes(found), expected, (program, pairs, found))
        return found

    def stays(self, program, found):
        """What does not hang on names is the same of both programs."""
        for least in (1, 2, 3):
            self.assertEqual(table(found, least), table(program, least))
            self.assertEqual(great(found, least), great(program, least))
            self.assertEqual(offers(found, least), offers(program, least))

    PROGRAM = (
        (("f", ("p", "x"), ("let", "k", P, ("do", ("set", "y", X), op(("name", "k"), Z)))), ("g", (), op(X, Y))),
        ("let", "y", X, ("do", ("set", "z", op(Y, A)), ("call", "f", X, ("call", "g")))),
    )

    def test_nothing(self):
        self.assertIs(same_program(self.becomes(self.PROGRAM, ()), self.PROGRAM), True)

    def test_all_boxes_for_one_another(self):
        self.assertEqual(box_names(self.PROGRAM), ("a", "x", "y", "z"))
        for by in range(1, 4):
            names = box_names(self.PROGRAM)
            pairs = tuple(zip(names, names[by:] + names[:by]))
            found = self.becomes(self.PROGRAM, pairs)
            self.assertEqual(box_names(found), names)
            self.stays(self.PROGRAM, found)
            back = self.becomes(found, tuple((y, x) for x, y in pairs))
            self.assertIs(same_program(back, self.PROGRAM), True)

    def test_some_for_new_ones(self):
        found = self.becomes(self.PROGRAM, (("x", "new"), ("z", "b")))
        self.assertEqual(box_names(found), ("a", "b", "new", "y"))
        self.stays(self.PROGRAM, found)

    def test_names_that_params_or_lets_have(self):
        for x in ("a", "x", "y", "z"):
            for y in ("p", "k", "f", "g"):
                found = self.becomes(self.PROGRAM, ((x, y),))
                self.stays(self.PROGRAM, found)
                self.assertIs(same_program(self.becomes(found, ((y, x),)), self.PROGRAM), True)
        found = self.becomes(self.PROGRAM, (("z", "p"), ("y", "k"), ("x", "y"), ("a", "x")))
        self.assertEqual(box_names(found), ("k", "p", "x", "y"))
        program = ((("f", ("a", "b", "c"), ("let", "d", X, op(("name", "d"), op(A, ("do", Y, Z))))),), ("call", "f", X, Y, Z))
        for pairs in ((("x", "a"), ("y", "b"), ("z", "c")), (("x", "d"), ("y", "a"), ("z", "e")), (("x", "e"), ("y", "d"), ("z", "a"))):
            found = self.becomes(program, pairs)
            self.assertEqual(len(set(found[0][0][1])), 3)

    def test_a_set_beneath_what_has_its_new_name(self):
        program = ((("f", ("p",), ("let", "k", P, ("set", "x", ("name", "k")))),), ("let", "k", ONE, ("set", "x", ONE)))
        for y in ("p", "k", "a", "f"):
            self.becomes(program, (("x", y),))

    def test_names_that_no_box_has(self):
        for x in ("p", "k", "f", "g", "nobody"):
            found = self.becomes(self.PROGRAM, ((x, "new"),))
            self.assertIs(same_program(found, self.PROGRAM), True)
            found = self.becomes(self.PROGRAM, ((x, "a"),))
            self.assertIs(same_program(found, self.PROGRAM), True)
        self.assertEqual([function[0] for function in self.becomes(self.PROGRAM, (("f", "h"), ("g", "f")))[0]], ["f", "g"])

    def refused(self, pairs, program=PROGRAM):
        kept = copy.deepcopy((program, pairs))
        self.assertIsInstance(refusal(self, NoExchange, exchanged_program, program, pairs), LikeError)
        self.assertEqual(repr((program, pairs)), repr(kept))

    def test_two_boxes_that_would_become_one(self):
        self.refused((("x", "y"),))
        self.refused((("x", "y"), ("y", "z")))
        self.refused((("a", "b"), ("x", "z"), ("y", "x")))
        self.becomes(self.PROGRAM, (("x", "y"), ("y", "x")))
        # Boxes of unlike bodies, too; a param or a let of that name is none.
        self.refused((("x", "y"),), ((("f", (), X),), Y))
        self.refused((("y", "x"),), ((("f", (), ("set", "x", ONE)),), Y))
        self.becomes(((("f", ("y",), Y),), X), (("x", "y"),))
        self.becomes(((), ("let", "y", X, Y)), (("x", "y"),))

    def test_what_is_no_exchange(self):
        right = ("x", "b")
        for pairs in (None, True, 0, "", "ab", [], [right], ("x", "b"), ("xb",), (["x", "b"],), (("x",),),
                      (("x", "b", "c"),), ((right,),), (right, right), (right, ("x", "c")), (right, ("nobody", "b")), (("x", "X"),), (("x", ""),),
                      (("x", "num"),), (("hole", "b"),), (("x", "ninechars"),), (("x", 1),), ((None, "b"),), ((True, "b"),), (("x", ("b",)),),
                      (right, None), (right, ()), ((),), nested((right,), 3), nested(right, 38)):
            self.refused(pairs)
            self.refused(pairs, ((), ONE))

    def test_by_chance(self):
        rng = random.Random(342)
        many = {"right": 0, "refused": 0}
        for program in some_programs(343, 250):
            others = NAMES + rng.choice(((), ("p", "q", "f", "g", "new")))
            boxes = plain_boxes(program)
            count = rng.randint(0, 5)
            pairs = tuple(zip(rng.sample(NAMES + ("f", "new"), count), rng.sample(others, count)))
            become = [dict(pairs).get(x, x) for x in boxes]
            if len(set(become)) < len(become):
                self.refused(pairs, program)
                many["refused"] += 1
                continue
            many["right"] += 1
            found = self.becomes(program, pairs)
            self.stays(program, found)
            turned = tuple((y, x) for x, y in pairs if x in boxes)
            self.assertIs(same_program(self.becomes(found, turned), program), True)
            if work(program) <= 2000:
                for row in INPUTS:
                    result, said, values, taken = run(program, row)
                    values = tuple(sorted((dict(pairs).get(x, x), value) for x, value in values))
                    self.assertEqual(run(found, row), (result, said, values, taken))
        self.assertGreater(min(many.values()), 20)

    def test_however_deep(self):
        program = ((("f", ("y",), ("do", chain(1500), Y)),), chain(1500))
        found = exchanged_program(program, (("x", "y"),))
        self.assertIs(is_program(found), True)
        self.assertEqual(box_names(found), ("y",))
        self.assertEqual(found[0][0][2][2], ("name", found[0][0][1][0]))

    def test_params_and_lets_stay_where_they_can(self):
        found = exchanged_program(self.PROGRAM, (("z", "b"),))
        self.assertEqual(found[0][0][1], ("p", "x"))
        self.assertEqual(marked(("p", "x"), found[0][0][2]), renamed_bare(marked(("p", "x"), self.PROGRAM[0][0][2]), {"z": "b"}))


if __name__ == "__main__":
    unittest.main()
