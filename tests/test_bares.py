"""[8], [9], [10]: bare forms, loose owns, bare, named, same."""

import unittest

from likepieces.bares import bare, is_bare, loose, named, same
from likepieces.errors import NoBare
from likepieces.names import exchanged, free_names
from likepieces.trees import deep, is_expression, is_name, nodes
from tests.samples import (
    NO_TREES, OF_EVERY_WORD, ONE, SIGNS, WORDS, X, Y, each_path, kids, let_chain, let_list, nested, plain_bare, plain_free,
    refusal, some_expressions, with_kids,
)

OWN = ("own", 0)
HOLE = ("hole", 0)

# One right bare form for each of the thirteen words.
BARE_OF_EVERY_WORD = dict(OF_EVERY_WORD, let=("let", ONE, OWN), own=("own", 2), hole=("hole", 1))


def samples():
    return list(OF_EVERY_WORD.values()) + some_expressions(910, 250)


class BareForms(unittest.TestCase):
    def right(self, *things):
        for thing in things:
            self.assertIs(is_bare(thing), True, thing)
            self.assertIs(is_bare(("let", thing, ("do", ONE, thing))), True, thing)

    def wrong(self, *things):
        """Each is wrong by itself and as a part of others."""
        for thing in things:
            self.assertIs(is_bare(thing), False, thing)
            self.assertIs(is_bare(("let", ONE, ("do", ONE, thing))), False, thing)
            self.assertIs(is_bare(("op", "+", thing, HOLE)), False, thing)

    def test_each_word(self):
        self.assertEqual(set(BARE_OF_EVERY_WORD), set(WORDS))
        self.right(*BARE_OF_EVERY_WORD.values())
        self.right(*[plain_bare(e) for e in samples()])

    def test_numbers_of_own_and_hole(self):
        for word in ("own", "hole"):
            for number in (0, 1, 2, 5, 6, 149, 10 ** 59, 10 ** 60 - 1):
                self.right((word, number))
            for number in (-1, -10 ** 59, True, False, None, "0", "x", (), [], (0,), [0], ONE):
                self.wrong((word, number))
            self.wrong((word,), (word, 0, 0), (word, 0, ONE), (word, ONE), [word, 0], ([word], 0), ((word,), 0))

    def test_an_expressions_let_is_none(self):
        self.wrong(("let", "x", ONE, X), ("let", "x", ONE), ("let", ONE), ("let", ONE, ONE, ONE), ("let",))
        for e in samples():
            self.assertIs(is_bare(e), not let_list(e))

    def test_any_thing(self):
        self.wrong(*NO_TREES)
        for at in range(1, 41):
            self.wrong(nested(ONE, at), nested("take", at), nested(OWN, at))
        self.wrong(("do",) + (HOLE,) * 6000, tuple(range(1, 19990)))

    def test_a_list_in_the_place_of_a_tuple(self):
        for b in BARE_OF_EVERY_WORD.values():
            self.wrong(list(b))
            for at, kid in enumerate(kids(b)):
                self.wrong(with_kids(b, kids(b)[:at] + (list(kid),) + kids(b)[at + 1:]))

    def test_a_thing_more_or_less(self):
        for word, b in BARE_OF_EVERY_WORD.items():
            if word not in ("do", "call"):
                self.wrong(b + (ONE,), b + (0,), b + ("x",), b + ([],), b[:-1])

    def test_other_words_and_fields(self):
        for b in BARE_OF_EVERY_WORD.values():
            for word in ("nix", "", "free", b[0] + "s", None, True, 0, [b[0]], (b[0],), [], (), ONE):
                self.wrong((word,) + b[1:])
        for word in ("num", "name", "op", "set", "again", "call"):
            for field in (None, True, False, -1, 10 ** 9, "", "X", "no name", (), [], ["x"], ("x",), ONE, "let"):
                self.wrong((word, field) + kids(BARE_OF_EVERY_WORD[word]))

    def test_edges_of_fields_and_counts(self):
        self.right(("num", 0), ("num", 999999999), ("again", 0, HOLE), ("again", 5, HOLE), ("name", "abcdefgh"))
        self.wrong(("num", 10 ** 9), ("again", 6, HOLE), ("again", True, HOLE), ("name", "abcdefghi"))
        self.right(*[("op", sign, OWN, HOLE) for sign in SIGNS])
        for many in range(1, 7):
            self.right(("do",) + (OWN,) * many, ("call", "f") + (HOLE,) * many)
        self.right(("call", "f"))
        self.wrong(("do",), ("do",) + (ONE,) * 7, ("call", "f") + (ONE,) * 7, ("call",))

    def test_a_set_may_stand_in_any_let(self):
        self.right(("let", ONE, ("set", "x", OWN)), ("let", X, ("set", "x", X)))

    def test_one_deep_and_without_parts(self):
        for b in (OWN, ("own", 10 ** 59), HOLE):
            self.assertEqual((deep(b), nodes(b)), (1, 1))


class Loose(unittest.TestCase):
    def loose(self, b, *numbers):
        self.assertEqual(loose(b), numbers, b)
        self.assertIs(type(loose(b)), tuple)

    def test_of_closed_forms(self):
        self.loose(ONE)
        self.loose(("hole", 3))
        self.loose(("let", ONE, OWN))
        self.loose(("let", ONE, ("let", OWN, ("op", "+", ("own", 1), OWN))))
        self.loose(("let", ("let", ONE, OWN), ("say", OWN)))
        for e in samples():
            self.loose(plain_bare(e))

    def test_without_lets(self):
        self.loose(OWN, 0)
        self.loose(("own", 10 ** 59), 10 ** 59)
        self.loose(("op", "+", ("own", 5), ("own", 2)), 2, 5)
        self.loose(("do", ("own", 64), ("own", 9), ("own", 8), ("own", 10 ** 59), ("own", 1)), 1, 8, 9, 64, 10 ** 59)
        self.loose(("do", ("own", 2), ("own", 2), ("say", ("own", 2))), 2)

    def test_in_a_lets_parts(self):
        self.loose(("let", OWN, OWN), 0)
        self.loose(("let", ONE, ("own", 1)), 0)
        self.loose(("let", ("own", 1), ("own", 1)), 0, 1)
        self.loose(("let", ("own", 1), ("own", 2)), 1)
        self.loose(("op", "+", ("let", ONE, OWN), OWN), 0)

    def test_within_several_lets(self):
        b = ("let", ("own", 4), ("let", ("own", 1), ("do", ("own", 1), ("own", 2), ("own", 9), OWN)))
        self.loose(b, 0, 4, 7)
        self.loose(("let", ("let", ("own", 3), ("own", 3)), ("own", 1)), 0, 2, 3)
        self.loose(("let", ONE, ("let", ONE, ("let", ("own", 2), ("own", 10 ** 59)))), 0, 10 ** 59 - 3)

    def test_of_pieces(self):
        def plain_loose(b, level):
            if b[0] == "own":
                return {b[1] - level} if b[1] >= level else set()
            told = set()
            for at, kid in enumerate(kids(b)):
                told |= plain_loose(kid, level + (1 if b[0] == "let" and at == 1 else 0))
            return told

        for e in samples():
            for path, b in each_path(plain_bare(e)):
                self.loose(b, *sorted(plain_loose(b, 0)))


class Bare(unittest.TestCase):
    def test_lets_lose_their_names(self):
        self.assertEqual(bare(("let", "x", ONE, X)), ("let", ONE, OWN))
        self.assertEqual(bare(("let", "x", X, X)), ("let", X, OWN))
        self.assertEqual(bare(("let", "x", X, Y)), ("let", X, Y))

    def test_lets_within_lets(self):
        e = ("let", "x", ONE, ("let", "y", X, ("do", X, Y, ("name", "z"))))
        self.assertEqual(bare(e), ("let", ONE, ("let", OWN, ("do", ("own", 1), OWN, ("name", "z")))))
        e = ("let", "x", ("let", "y", X, ("op", "-", Y, X)), ("let", "y", Y, ("op", "*", Y, X)))
        inner = ("let", X, ("op", "-", OWN, X))
        self.assertEqual(bare(e), ("let", inner, ("let", Y, ("op", "*", OWN, ("own", 1)))))

    def test_lets_of_one_name(self):
        e = ("let", "x", X, ("let", "x", X, ("do", X, ("let", "y", X, X), X)))
        self.assertEqual(bare(e), ("let", X, ("let", OWN, ("do", OWN, ("let", OWN, ("own", 1)), OWN))))
        e = ("let", "x", ONE, ("do", ("let", "x", X, X), X))
        self.assertEqual(bare(e), ("let", ONE, ("do", ("let", OWN, OWN), OWN)))

    def test_a_lets_name_that_is_a_boxs_elsewhere(self):
        e = ("do", X, ("let", "x", X, X), ("set", "x", X), ("call", "x", X))
        self.assertEqual(bare(e), ("do", X, ("let", X, OWN), ("set", "x", X), ("call", "x", X)))

    def test_all_else_stays(self):
        for word, e in OF_EVERY_WORD.items():
            if word != "let":
                self.assertEqual(bare(e), e)

    def test_samples(self):
        for e in samples():
            told = bare(e)
            self.assertEqual(told, plain_bare(e))
            self.assertIs(is_bare(told), True)
            self.assertEqual(loose(told), ())
            self.assertEqual(nodes(told), nodes(e))


class Named(unittest.TestCase):
    def right(self, b, taken=()):
        """Named, the bare form is as [10] tells; what it is is told."""
        e = named(b, taken)
        self.assertIs(is_expression(e), True, e)
        self.assertEqual(plain_bare(e), b)
        lets = let_list(e)
        self.assertEqual(len(lets), len(set(lets)), e)
        self.assertFalse(set(lets) & (set(taken) | set(plain_free(e))), e)
        self.assertTrue(all(is_name(name) for name in lets))
        return e

    def test_without_lets(self):
        for word, e in OF_EVERY_WORD.items():
            if word != "let":
                self.assertEqual(self.right(e), e)

    def test_samples(self):
        for e in samples():
            b = plain_bare(e)
            first = self.right(b)
            self.right(b, tuple(let_list(first)))
            self.right(b, ("a", "b", "c", "x", "y", "total"))

    def test_lets_in_first_and_second_parts(self):
        inner = ("let", ONE, ("say", OWN))
        self.right(("let", inner, ("op", "+", OWN, inner)))
        self.right(("let", ("let", inner, OWN), ("let", ("op", "+", OWN, inner), ("op", "+", OWN, ("own", 1)))))
        self.right(("let", ("let", X, ("let", inner, ("own", 1))), ("let", OWN, ("let", ("own", 1), ("own", 2)))))

    def test_free_names_and_sets(self):
        for letter in "abcdefghijklmnopqrstuvwxyz":
            self.right(("let", ONE, ("set", letter, OWN)))
            self.right(("let", ("name", letter), ("op", "+", OWN, ("name", letter))))
            self.right(("let", ONE, ("call", letter, OWN)))

    def test_more_than_twenty_six_lets(self):
        b = ("own", 29)
        for at in range(60):
            b = ("let", ("set", "c", ("name", "a")), b)
        self.right(b)
        self.right(b, tuple("abcdefghij"))
        wide = ("do",) + (("do",) + (("let", ONE, OWN),) * 6,) * 6
        self.right(wide)

    def test_many_names_taken(self):
        letters = "abcdefghijklmnopqrstuvwxyz"
        short = tuple(letters) + tuple(one + two for one in letters for two in letters if one + two not in WORDS)
        b = ("let", ONE, ("let", OWN, ("op", "+", ("own", 1), OWN)))
        self.right(b, short)
        longer = tuple(one + name for one in letters for name in short[26:] if one + name not in WORDS)
        self.right(b, short + longer)
        self.right(("let", b, b), short[:-1] + ("a", "a"))

    def test_words_are_no_names_of_lets(self):
        b = ("do",) + (("do",) + (("do",) + (("let", ONE, OWN),) * 6,) * 6,) * 4
        lets = let_list(self.right(b))
        self.assertEqual(len(lets), 144)

    def test_refused(self):
        for b in (
            OWN, ("own", 10 ** 59), HOLE, ("hole", 7), ("do", ONE, OWN), ("let", OWN, ONE), ("let", ONE, ("own", 1)),
            ("let", ONE, HOLE), ("let", HOLE, OWN), ("say", ("let", ONE, ("let", OWN, ("own", 2)))),
            ("do", ("let", ONE, OWN), OWN), ("let", ("let", ONE, ("own", 1)), OWN), ("call", "f", ("op", "+", HOLE, ONE)),
        ):
            refusal(self, NoBare, named, b, ())
            refusal(self, NoBare, named, b, ("a", "x"))

    def test_great_ones(self):
        b = bare(let_chain(3000))
        self.assertEqual(loose(b), ())
        e = named(b, ())
        self.assertIs(is_expression(e), True)
        self.assertIs(same(e, let_chain(3000)), True)
        self.assertIs(same(e, let_chain(2999)), False)


class Same(unittest.TestCase):
    def test_but_for_the_names_of_lets(self):
        one = ("let", "x", ONE, ("let", "y", X, ("op", "+", X, Y)))
        for other in (
            ("let", "y", ONE, ("let", "x", Y, ("op", "+", Y, X))),
            ("let", "p", ONE, ("let", "q", ("name", "p"), ("op", "+", ("name", "p"), ("name", "q")))), one,
        ):
            self.assertIs(same(one, other), True)
        for e in samples():
            self.assertIs(same(e, named(plain_bare(e), plain_free(e))), True)

    def test_in_anything_else(self):
        one = ("let", "x", ONE, ("let", "y", X, ("op", "+", X, Y)))
        for other in (
            ("let", "x", ONE, ("let", "y", X, ("op", "+", Y, X))), ("let", "x", ONE, ("let", "x", X, ("op", "+", X, X))),
            ("let", "x", ONE, ("let", "y", X, ("op", "-", X, Y))), ("let", "x", Y, ("let", "y", X, ("op", "+", X, Y))),
            ("let", "x", ("num", 2), ("let", "y", X, ("op", "+", X, Y))), ONE, X,
            ("let", "x", ONE, ("let", "z", X, ("op", "+", X, Y))), ("let", "z", ONE, ("let", "y", X, ("op", "+", X, Y))),
        ):
            self.assertIs(same(one, other), False)
            self.assertIs(same(other, one), False)
        for one, other in (
            (X, Y), (("set", "x", ONE), ("set", "y", ONE)), (("call", "f"), ("call", "g")), (("do", ONE), ("say", ONE)),
            (("do", ONE), ("do", ONE, ONE)), (("again", 1, ONE), ("again", 2, ONE)), (("take",), ("num", 0)),
            (("do", ("do", ONE), ONE), ("do", ("do", ONE, ONE))), (("name", "f"), ("call", "f")),
        ):
            self.assertIs(same(one, other), False)

    def test_all_pairs_of_small_ones(self):
        few = some_expressions(88, 120, 3, ("x", "y"))
        for one in few:
            for other in few:
                self.assertIs(same(one, other), plain_bare(one) == plain_bare(other))

    def test_an_exchange_of_none(self):
        for e in samples():
            self.assertIs(same(e, exchanged(e, ())), True)
            self.assertEqual(free_names(e), plain_free(e))


if __name__ == "__main__":
    unittest.main()
