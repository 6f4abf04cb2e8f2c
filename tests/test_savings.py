"""[33], [3]: the size of programs, what papers save, offers."""

import copy
import random
import unittest

from likepieces.backs import put_back, same_program
from likepieces.errors import NoPut
from likepieces.pieces import piece_at
from likepieces.programs import is_program, work
from likepieces.putcheck import lets_put
from likepieces.puts import put
from likepieces.putting import paper_for
from likepieces.runs import run
from likepieces.savings import offers, saving, size
from likepieces.tables import great
from tests.backing import bodies, plain_answer
from tests.papers import some_paper
from tests.samples import ONE, X, Y, chain, each_path, some_programs

TAKE = ("take",)
TWO = ("num", 2)
Z = ("name", "z")
H0, H1 = ("hole", 0), ("hole", 1)
STILL, ONCE = "still", "once"
INPUTS = ((), (0,), (3, 0), (7, 6, 5, 4, 3, 2, 1), tuple(range(20)))


def op(one, other):
    return ("op", "+", one, other)


def plain_size(program):
    return sum(len(each_path(body)) for body in bodies(program)) + sum(1 + len(function[1]) for function in program[0])


def great_sum(e):
    """A piece of some nodes round e."""
    return ("say", ("op", "*", ("op", "-", e, ONE), ("op", "/", TWO, ("num", 7))))


class Size(unittest.TestCase):
    def test_without_functions(self):
        for e, many in ((ONE, 1), (TAKE, 1), (op(X, ONE), 3), (("let", "x", ONE, ("do", X, X)), 5), (("set", "x", ("again", 0, X)), 3)):
            self.assertEqual(size(((), e)), many)

    def test_with_functions(self):
        self.assertEqual(size(((("f", (), ONE),), TAKE)), 3)
        self.assertEqual(size(((("f", ("x",), ONE),), ("call", "f", TAKE))), 5)
        self.assertEqual(size(((("f", tuple("abcdef"), op(ONE, X)),), TAKE)), 1 + 3 + 7)
        functions = (("f", (), ONE), ("g", ("a",), op(ONE, X)), ("h", tuple("abcdef"), ("call", "g", ("call", "f"))))
        self.assertEqual(size((functions, ("call", "g", ONE))), 1 + 1 + 2 + 3 + 7 + 2 + 2)
        self.assertEqual(size((functions, ("call", "f"))), 1 + 1 + 2 + 3 + 7 + 2 + 1)

    def test_by_chance_and_however_deep(self):
        for program in some_programs(331, 200):
            self.assertEqual(size(program), plain_size(program))
        self.assertEqual(size(((("f", ("x",), chain(1500)),), chain(1500))), 2 * 1501 + 2)


class Saving(unittest.TestCase):
    def saves(self, many, program, paper):
        self.assertIs(is_program(program), True)
        self.assertIs(lets_put(program, paper), True)
        kept = copy.deepcopy((program, paper))
        self.assertEqual(saving(program, paper), many)
        self.assertEqual((program, paper), kept)
        self.assertEqual(plain_size(program) - plain_size(put(program, paper)), many)

    def test_no_rows(self):
        program = ((), X)
        self.saves(-2, program, (0, "f", (), ONE, ()))
        self.saves(-5, program, (0, "f", ("p",), op(H0, ONE), ()))
        self.saves(-6, program, (0, "f", ("p", "q"), op(H0, H1), ()))

    def test_one_row(self):
        program = ((), op(op(X, ONE), ONE))
        self.saves(-4, program, (0, "f", ("p",), op(H0, ONE), (((0, ()), (op(X, ONE),), (STILL,)),)))
        self.saves(-2, program, (0, "f", (), op(op(X, ONE), ONE), (((0, ()), (), ()),)))

    def test_below_0_and_0_and_above(self):
        for many in range(2, 7):
            program = ((), ("do",) + tuple(great_sum(("num", k)) for k in range(many)))
            pattern = great_sum(H0)
            rows = tuple(((0, (k,)), (("num", k),), (STILL,)) for k in range(many))
            # Each of the pieces has 8 nodes, a call 2; the function has 8 nodes and 2 more.
            self.saves(6 * many - 10, program, (0, "f", ("p",), pattern, rows))
        for many in (2, 3, 5, 6):
            program = ((), ("do",) + tuple(op(ONE, X) for k in range(many)))
            rows = tuple(((0, (k,)), (X,), (STILL,)) for k in range(many))
            self.saves(many - 5, program, (0, "f", ("p",), op(ONE, H0), rows))
            self.saves(2 * many - 4, program, (0, "f", (), op(ONE, X), tuple((place, (), ()) for place, fillings, ways in rows)))

    def test_whatever_is_let_by(self):
        rng = random.Random(333)
        seen = {}
        for program in some_programs(334, 400, copies=8):
            paper = some_paper(rng, program, 5)
            try:
                lets_put(program, paper)
            except NoPut:
                continue
            many = plain_size(program) - plain_size(put(program, paper))
            self.assertIs(type(saving(program, paper)), int)
            self.assertEqual(saving(program, paper), many)
            self.assertEqual(saving(program, paper), size(program) - size(put(program, paper)))
            seen[(many > 0) - (many < 0)] = True
        self.assertEqual(sorted(seen), [-1, 0, 1])


class Offers(unittest.TestCase):
    def offered(self, program, least):
        """The offers are right by the words, and are told."""
        kept = copy.deepcopy(program)
        found = offers(program, least)
        self.assertEqual(program, kept)
        self.assertIs(type(found), tuple)
        expected = []
        groups = great(program, least)
        for number, places in enumerate(groups):
            told = plain_answer(program, places)
            self.assertEqual(paper_for(program, places)[0], told[0])
            if told[0] == "put":
                paper = paper_for(program, places)[1]
                expected.append((-(plain_size(program) - plain_size(put(program, paper))), number, places))
        self.assertEqual(found, tuple((-many, places) for many, number, places in sorted(expected)))
        for pair in found:
            self.assertEqual((type(pair), type(pair[0]), type(pair[1])), (tuple, int, tuple))
            self.assertEqual({type(place) for place in pair[1]} | {type(place[1]) for place in pair[1]}, {tuple})
        return found

    def test_none(self):
        self.assertEqual(self.offered(((), X), 1), ())
        self.assertEqual(self.offered(((), op(X, TAKE)), 1), ())
        self.assertEqual(self.offered(((), op(op(X, ONE), op(Y, ONE))), 4), ())

    def test_one_group(self):
        program = ((), ("do", great_sum(X), TAKE, great_sum(Y)))
        self.assertEqual(self.offered(program, 3), ((2, ((0, (0,)), (0, (2,)))),))

    def test_groups_for_which_nothing_can_be_put(self):
        program = ((), ("do", ("again", 2, ("set", "x", ONE)), ("again", 2, ("set", "y", ONE)), great_sum(X), great_sum(X)))
        places = ((0, (0,)), (0, (1,)))
        self.assertIn(places, great(program, 3))
        self.assertEqual(paper_for(program, places), ("not", "once", 0, 0))
        self.assertEqual([pair[1] for pair in self.offered(program, 3)], [((0, (2,)), (0, (3,)))])

    def test_greater_savings_first(self):
        small = [("say", op(X, ("do", TAKE))), ("say", op(X, ("do", TAKE)))]
        large = [great_sum(great_sum(X)), great_sum(great_sum(X))]
        middle = [("do", great_sum(X), ONE), ("do", great_sum(X), ONE)]
        program = ((), ("do", op(small[0], large[0]), ("again", 1, small[1]), op(middle[0], ONE), ("again", 2, large[1]), ("again", 3, middle[1])))
        found = self.offered(program, 4)
        savings = [pair[0] for pair in found]
        self.assertEqual(savings, sorted(savings, reverse=True))
        self.assertGreater(len(set(savings)), 2)
        # The piece that the large ones and the middle ones have in them stands four times.
        self.assertEqual([len(pair[1]) for pair in found[:2]], [4, 2])
        self.assertEqual(found[1][1], ((0, (0, 1)), (0, (3, 0))))

    def test_of_like_savings_the_first_group_first(self):
        one, other, third = ("say", op(X, TAKE)), op(TAKE, ("say", X)), ("do", op(X, TAKE))
        program = ((), ("do", ("do", one, other, third), ("do", ("say", third), one, ("say", other))))
        found = self.offered(program, 4)
        self.assertEqual([pair[0] for pair in found], [found[0][0]] * 3)
        self.assertEqual([pair[1] for pair in found], list(great(program, 4)))

    def test_below_0(self):
        program = ((), ("do", op(X, ONE), op(Y, ONE)))
        self.assertEqual(self.offered(program, 3), ((-3, ((0, (0,)), (0, (1,)))),))

    def test_by_chance(self):
        rng = random.Random(335)
        many = 0
        for program in some_programs(336, 120, copies=6) + some_programs(337, 20, most_deep=5, copies=6):
            for least in (1, 2, 3, 5, 9):
                found = self.offered(program, least)
                many += len(found)
            for number, places in found[:2]:
                paper = paper_for(program, places)[1]
                after = put(program, paper)
                self.assertEqual(size(after), size(program) - number)
                self.assertIs(same_program(put_back(after, paper[1]), program), True)
                self.assertEqual({len(each_path(piece_at(program, place))) >= 9 for place in places}, {True})
                for row in INPUTS if work(program) <= 2000 else ():
                    self.assertEqual(run(after, row), run(program, row))
        self.assertGreater(many, 300)


if __name__ == "__main__":
    unittest.main()
