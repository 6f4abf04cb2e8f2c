"""[3], [12] to [15]: patterns, what fills them, the most shared one."""

import itertools
import random
import unittest

from likepieces.bares import is_bare, loose
from likepieces.errors import NoFill
from likepieces.patterns import filled, got, hole_count, is_pattern, most_shared
from likepieces.trees import nodes
from tests.samples import (
    NO_TREES, OF_EVERY_WORD, ONE, X, Y, chain, each_path, kids, nested, plain_bare, refusal, some_expression,
    some_expressions, with_kids,
)

OWN = ("own", 0)
TWO = ("num", 2)


def hole(number):
    return ("hole", number)


def plain_filled(pattern, fillings):
    if pattern[0] == "hole":
        return fillings[pattern[1]]
    return with_kids(pattern, [plain_filled(kid, fillings) for kid in kids(pattern)])


def with_kid_at(b, path, other):
    if path == ():
        return other
    others = list(kids(b))
    others[path[0]] = with_kid_at(others[path[0]], path[1:], other)
    return with_kids(b, others)


def families(seed, many):
    """Rows of two to four expressions' bare forms, each made of one by other pieces here and there."""
    rng = random.Random(seed)
    told = []
    for at in range(many):
        e = some_expression(rng, rng.randint(2, 5))
        row = [e]
        for more in range(rng.randint(1, 3)):
            other = e
            for change in range(rng.randint(0, 3)):
                path, here = rng.choice(each_path(other))
                small = rng.choice((ONE, TWO, X, Y, ("say", X), some_expression(rng, 2)))
                other = with_kid_at(other, path, small)
            row.append(other)
        told.append(tuple(plain_bare(each) for each in row))
    return told


def some_shared(rng, forms):
    """A pattern that the forms share, not the most, by a random source, its holes numbered anyhow."""
    columns = []

    def shared(here):
        kid_rows = [kids(form) for form in here]
        heads = [with_kids(form, ()) for form in here]
        alike = all(own == heads[0] for own in heads) and len(set(len(row) for row in kid_rows)) == 1
        if alike and rng.random() < 0.8:
            return with_kids(here[0], [shared(together) for together in zip(*kid_rows)])
        known = [at for at, column in enumerate(columns) if column == here]
        if not known or rng.random() < 0.4:
            known = [len(columns)]
            columns.append(here)
        return hole(rng.choice(known))

    pattern = shared(tuple(forms))
    order = list(range(len(columns)))
    rng.shuffle(order)
    return plain_filled(pattern, [hole(number) for number in order])


def plain_most_shared(forms):
    """[14] by recursion: the pattern, and what stands at its holes."""
    columns = []

    def shared(here):
        kid_rows = [kids(form) for form in here]
        for form, row in zip(here, kid_rows):
            if with_kids(form, ()) != with_kids(here[0], ()) or len(row) != len(kid_rows[0]):
                if here not in columns:
                    columns.append(here)
                return hole(columns.index(here))
        return with_kids(here[0], [shared(together) for together in zip(*kid_rows)])

    pattern = shared(tuple(forms))
    return pattern, tuple(tuple(column[at] for column in columns) for at in range(len(forms)))


class Patterns(unittest.TestCase):
    def test_right_ones(self):
        for thing in (
            ONE, hole(0), ("op", "+", hole(0), hole(1)), ("op", "+", hole(1), hole(0)), ("op", "+", hole(0), hole(0)),
            ("do", hole(2), hole(0), hole(1), hole(2)), ("let", hole(0), OWN), ("let", ONE, ("op", "+", hole(0), OWN)),
            ("do",) + tuple(hole(at) for at in range(6)), ("let", hole(1), ("let", OWN, ("op", "+", ("own", 1), hole(0)))),
            ("do", ("do", hole(3), hole(4)), ("do", hole(5), hole(6)), ("do", hole(0), hole(1), hole(2))),
        ):
            self.assertIs(is_pattern(thing), True, thing)
        for e in some_expressions(12, 60):
            self.assertIs(is_pattern(plain_bare(e)), True)

    def test_gaps_in_the_numbers(self):
        for thing in (
            hole(1), hole(10 ** 59), ("op", "+", hole(1), hole(2)), ("op", "+", hole(0), hole(2)), ("say", hole(2)),
            ("do", hole(0), hole(1), hole(3)), ("do", hole(0), hole(0), hole(2)), ("op", "+", hole(0), hole(10 ** 59)),
        ):
            self.assertIs(is_pattern(thing), False, thing)

    def test_loose_owns(self):
        for thing in (
            OWN, ("op", "+", hole(0), OWN), ("let", OWN, hole(0)), ("let", hole(0), ("own", 1)), ("say", ("own", 10 ** 59)),
        ):
            self.assertIs(is_pattern(thing), False, thing)

    def test_things_that_are_none(self):
        for thing in NO_TREES + (
            ("hole", True), ("hole", False), ("hole", -1), ("hole", "0"), ("hole",), ["hole", 0], ("let", "x", ONE, X),
            ("op", "+", hole(0), ["hole", 1]), ("do", hole(0), ("hole", True)), nested(hole(0), 40),
            ("do",) + (hole(0),) * 7,
        ):
            self.assertIs(is_pattern(thing), False, thing)

    def test_holes_are_counted_by_unlike_numbers(self):
        self.assertEqual(hole_count(ONE), 0)
        self.assertEqual(hole_count(hole(0)), 1)
        self.assertEqual(hole_count(("op", "+", hole(0), hole(0))), 1)
        self.assertEqual(hole_count(("op", "+", hole(1), hole(0))), 2)
        self.assertEqual(hole_count(("do", hole(0), ("let", hole(1), hole(2)), hole(1), ("say", hole(0)))), 3)
        self.assertEqual(hole_count(("do",) + tuple(hole(at) for at in range(6))), 6)


class Filled(unittest.TestCase):
    def test_ordinary_ones(self):
        self.assertEqual(filled(ONE, ()), ONE)
        self.assertEqual(filled(hole(0), (X,)), X)
        self.assertEqual(filled(("op", "+", hole(1), hole(0)), (X, Y)), ("op", "+", Y, X))
        self.assertEqual(filled(("set", "x", ("say", hole(0))), (("take",),)), ("set", "x", ("say", ("take",))))

    def test_a_hole_several_times(self):
        pattern = ("do", hole(0), ("op", "*", hole(0), hole(1)), hole(0))
        self.assertEqual(filled(pattern, (("say", X), ONE)), ("do", ("say", X), ("op", "*", ("say", X), ONE), ("say", X)))

    def test_fillings_with_holes_as_they_stand(self):
        pattern = ("op", "+", hole(0), hole(1))
        self.assertEqual(filled(pattern, (hole(1), hole(0))), ("op", "+", hole(1), hole(0)))
        self.assertEqual(filled(pattern, (hole(7), ("say", hole(0)))), ("op", "+", hole(7), ("say", hole(0))))

    def test_fillings_with_loose_owns_as_they_stand(self):
        pattern = ("let", hole(0), ("op", "+", OWN, hole(1)))
        self.assertEqual(filled(pattern, (("own", 3), OWN)), ("let", ("own", 3), ("op", "+", OWN, OWN)))
        self.assertEqual(filled(pattern, (OWN, ("own", 1))), ("let", OWN, ("op", "+", OWN, ("own", 1))))

    def test_not_as_many(self):
        for pattern, many in (
            (ONE, 0), (hole(0), 1), (("op", "+", hole(0), hole(0)), 1), (("op", "+", hole(1), hole(0)), 2),
            (("do", hole(2), hole(0), hole(1)), 3),
        ):
            for count in range(5):
                if count == many:
                    self.assertIs(is_bare(filled(pattern, (X,) * count)), True)
                else:
                    refusal(self, NoFill, filled, pattern, (X,) * count)

    def test_samples(self):
        rng = random.Random(12)
        for forms in families(12, 60):
            pattern = some_shared(rng, forms)
            fillings = tuple(rng.choice((ONE, OWN, hole(3), forms[0])) for at in range(hole_count(pattern)))
            self.assertEqual(filled(pattern, fillings), plain_filled(pattern, fillings))

    def test_great_ones(self):
        b = ("do", hole(0))
        for at in range(12):
            b = filled(b, (b,))
        told = filled(b, (X,))
        self.assertEqual(nodes(told), 4097)
        self.assertEqual(got(b, told), (X,))
        self.assertIsNone(got(told, b))


class Got(unittest.TestCase):
    def test_a_filled_pattern_gives_the_fillings(self):
        rng = random.Random(13)
        for forms in families(13, 120):
            pattern = some_shared(rng, forms)
            self.assertIs(is_pattern(pattern), True)
            small = (ONE, OWN, ("own", 5), hole(3), hole(0), X, ("say", hole(1)), forms[0])
            fillings = tuple(rng.choice(small) for at in range(hole_count(pattern)))
            told = got(pattern, plain_filled(pattern, fillings))
            self.assertEqual(told, fillings)
            self.assertIs(type(told), tuple)

    def test_one_hole_that_would_be_two_forms(self):
        pattern = ("op", "+", hole(0), hole(0))
        self.assertEqual(got(pattern, ("op", "+", X, X)), (X,))
        self.assertIsNone(got(pattern, ("op", "+", X, Y)))
        self.assertIsNone(got(pattern, ("op", "+", ("say", X), ("say", Y))))
        self.assertIsNone(got(pattern, ("op", "+", ("do", X), ("do", X, X))))
        self.assertIsNone(got(pattern, ("op", "+", OWN, ("own", 1))))
        self.assertIsNone(got(("let", hole(0), hole(0)), ("let", ("own", 0), ("own", 1))))
        self.assertIsNone(got(("do", hole(0), hole(1), hole(0)), ("do", X, X, Y)))

    def test_unlike_heads(self):
        for pattern, other in (
            (ONE, TWO), (X, Y), (("say", hole(0)), ("do", ONE)), (("do", hole(0)), ("do", ONE, ONE)),
            (("do", hole(0), hole(1)), ("do", ONE)), (("op", "+", hole(0), ONE), ("op", "-", ONE, ONE)),
            (("set", "x", hole(0)), ("set", "y", ONE)), (("call", "f", hole(0)), ("call", "g", ONE)),
            (("again", 1, hole(0)), ("again", 2, ONE)), (("let", hole(0), OWN), ("let", ONE, ("own", 1))),
            (("let", hole(0), OWN), ("let", ONE, X)), (("say", hole(0)), ONE),
            (("op", "+", hole(0), ONE), ("op", "+", X, X)), (ONE, hole(0)), (("say", ONE), ("say", hole(0))), (("call", "f"), ("name", "f")),
        ):
            self.assertIsNone(got(pattern, other), (pattern, other))

    def test_a_hole_alone(self):
        for form in list(OF_EVERY_WORD.values()) + [OWN, hole(0), hole(9), ("say", ("own", 4)), ("let", ONE, OWN)]:
            self.assertEqual(got(hole(0), form), (form,))

    def test_a_form_with_holes(self):
        pattern = ("op", "+", hole(1), ("say", hole(0)))
        self.assertEqual(got(pattern, ("op", "+", hole(0), ("say", hole(4)))), (hole(4), hole(0)))
        self.assertEqual(got(pattern, pattern), (hole(0), hole(1)))
        self.assertIsNone(got(("op", "+", hole(0), hole(0)), ("op", "+", hole(0), hole(1))))

    def test_without_holes(self):
        self.assertEqual(got(ONE, ONE), ())
        self.assertEqual(got(("let", X, OWN), ("let", X, OWN)), ())

    def test_numbers_in_their_order(self):
        pattern = ("do", hole(2), hole(0), hole(1), hole(2))
        self.assertEqual(got(pattern, ("do", X, Y, ONE, X)), (Y, ONE, X))


class MostShared(unittest.TestCase):
    def told(self, forms):
        """The pair, looked at as [14] and [15] tell."""
        pattern, fillings = most_shared(forms)
        self.assertIs(is_pattern(pattern), True)
        self.assertIs(type(fillings), tuple)
        self.assertEqual(len(fillings), len(forms))
        for form, row in zip(forms, fillings):
            self.assertIs(type(row), tuple)
            self.assertEqual(plain_filled(pattern, row), form)
            self.assertEqual(filled(pattern, row), form)
            self.assertEqual(got(pattern, form), row)
        return pattern, fillings

    def test_of_one(self):
        for e in list(OF_EVERY_WORD.values()) + some_expressions(14, 60):
            b = plain_bare(e)
            self.assertEqual(self.told((b,)), (b, ((),)))

    def test_of_like_ones(self):
        for e in some_expressions(15, 60):
            b = plain_bare(e)
            self.assertEqual(self.told((b, b)), (b, ((), ())))
            self.assertEqual(self.told((b, b, b)), (b, ((), (), ())))

    def test_of_two(self):
        one = ("op", "+", X, ("say", ONE))
        other = ("op", "+", Y, ("say", TWO))
        self.assertEqual(self.told((one, other)), (("op", "+", hole(0), ("say", hole(1))), ((X, ONE), (Y, TWO))))
        self.assertEqual(self.told((X, Y)), (hole(0), ((X,), (Y,))))
        self.assertEqual(self.told((ONE, ("say", ONE))), (hole(0), ((ONE,), (("say", ONE),))))

    def test_two_holes_are_one_just_where_the_same_stands(self):
        one = ("do", X, ("say", X), Y)
        self.assertEqual(self.told((one, ("do", Y, ("say", Y), X)))[0], ("do", hole(0), ("say", hole(0)), hole(1)))
        self.assertEqual(self.told((one, ("do", Y, ("say", X), Y)))[0], ("do", hole(0), ("say", X), Y))
        self.assertEqual(self.told((one, ("do", Y, ("say", ONE), X)))[0], ("do", hole(0), ("say", hole(1)), hole(2)))
        three = (("op", "+", X, X), ("op", "+", Y, Y), ("op", "+", ONE, ONE))
        self.assertEqual(self.told(three)[0], ("op", "+", hole(0), hole(0)))
        three = (("op", "+", X, X), ("op", "+", Y, Y), ("op", "+", ONE, TWO))
        self.assertEqual(self.told(three)[0], ("op", "+", hole(0), hole(1)))
        great = (("op", "+", ("say", ("op", "-", X, Y)), ("say", ("op", "-", X, Y))), ("op", "+", X, X))
        self.assertEqual(self.told(great)[0], ("op", "+", hole(0), hole(0)))

    def test_holes_are_numbered_as_they_stand_first(self):
        one = ("pick", ("do", ("num", 10), ("num", 11)), ("say", ("num", 12)), ("op", "+", ("num", 11), ("num", 13)))
        other = ("pick", ("do", ("num", 20), ("num", 21)), ("say", ("num", 22)), ("op", "+", ("num", 21), ("num", 23)))
        pattern = ("pick", ("do", hole(0), hole(1)), ("say", hole(2)), ("op", "+", hole(1), hole(3)))
        self.assertEqual(self.told((one, other))[0], pattern)

    def test_heads_alike_only_where_all_but_the_parts_is_equal(self):
        for one, other in (
            (("op", "+", X, X), ("op", "-", X, X)), (("do", X), ("do", X, X)), (("call", "f", X), ("call", "g", X)),
            (("call", "f", X), ("call", "f", X, X)), (("set", "x", X), ("set", "y", X)), (("again", 1, X), ("again", 2, X)),
            (("do", X), ("say", X)), (ONE, TWO), (("name", "f"), ("call", "f")), (("let", X, X), ("do", X, X)),
        ):
            self.assertEqual(self.told((one, other)), (hole(0), ((one,), (other,))))
            self.assertEqual(self.told((("say", one), ("say", other)))[0], ("say", hole(0)))

    def test_owns_as_they_stand(self):
        one = ("let", ONE, ("op", "+", OWN, ("let", TWO, ("own", 1))))
        other = ("let", X, ("op", "+", OWN, ("let", TWO, OWN)))
        pattern = ("let", hole(0), ("op", "+", OWN, ("let", TWO, hole(1))))
        self.assertEqual(self.told((one, other)), (pattern, ((ONE, ("own", 1)), (X, OWN))))
        one = ("let", ONE, ("op", "+", OWN, ("let", TWO, OWN)))
        other = ("let", ONE, ("op", "+", X, ("let", TWO, X)))
        self.assertEqual(self.told((one, other))[0], ("let", ONE, ("op", "+", hole(0), ("let", TWO, hole(0)))))
        one = ("let", ONE, ("op", "+", OWN, ("let", TWO, ("own", 1))))
        self.assertEqual(self.told((one, other))[0], ("let", ONE, ("op", "+", hole(0), ("let", TWO, hole(1)))))

    def test_families(self):
        several = 0
        for forms in families(16, 250):
            pattern, fillings = self.told(forms)
            self.assertEqual((pattern, fillings), plain_most_shared(forms))
            several += len(set(fillings)) > 1
        self.assertGreater(several, 100)

    def test_in_any_order(self):
        for forms in families(17, 80):
            pattern, fillings = self.told(forms)
            for order in itertools.permutations(range(len(forms))):
                told = self.told(tuple(forms[at] for at in order))
                self.assertEqual(told, (pattern, tuple(fillings[at] for at in order)))

    def test_other_shared_patterns_are_got_from(self):
        rng = random.Random(18)
        lesser = 0
        for forms in families(18, 150):
            pattern, fillings = self.told(forms)
            for more in range(6):
                other = some_shared(rng, forms)
                for form in forms:
                    self.assertIsNotNone(got(other, form))
                told = got(other, pattern)
                self.assertIsNotNone(told, (other, pattern))
                self.assertEqual(plain_filled(other, told), pattern)
                lesser += other != pattern
        self.assertGreater(lesser, 300)

    def test_fillings_may_be_loose(self):
        pattern, fillings = self.told((("let", ONE, OWN), ("let", ONE, X)))
        self.assertEqual(fillings, ((OWN,), (X,)))
        self.assertEqual([loose(row[0]) for row in fillings], [(0,), ()])

    def test_great_ones(self):
        one, other = chain(3000), ONE
        for at in range(3000):
            other = ("do", other)
        pattern, fillings = most_shared((one, other))
        self.assertEqual(fillings, ((X,), (ONE,)))
        self.assertEqual(hole_count(pattern), 1)


if __name__ == "__main__":
    unittest.main()
