"""[2], [4], [5], [6]: names, values, expressions, parts, nodes, paths, pieces."""

import copy
import unittest

from likepieces.errors import NoPlace
from likepieces.trees import deep, is_expression, is_name, nodes, parts, paths, piece, with_piece
from tests.samples import (
    NO_TREES, OF_EVERY_WORD, ONE, SIGNS, WORDS, X, Y, chain, each_path, kids, let_chain, nested, refusal,
    some_expressions, with_kids,
)

OTHER_FIELDS = (None, True, False, -1, 10 ** 9, "", "X", "no name", (), [], ["x"], ("x",), ONE, "ninechars", "let")


def samples():
    return list(OF_EVERY_WORD.values()) + some_expressions(61, 150)


class Names(unittest.TestCase):
    def names(self, *things):
        for thing in things:
            self.assertIs(is_name(thing), True, thing)

    def no_names(self, *things):
        for thing in things:
            self.assertIs(is_name(thing), False, thing)

    def test_lengths(self):
        self.names("a", "z", "m", "ab", "abcdefgh", "zzzzzzzz")
        self.no_names("", "abcdefghi", "abcdefghijklmnop" * 50)

    def test_words_are_no_names(self):
        self.no_names(*WORDS)

    def test_words_with_a_letter_more_or_less(self):
        for word in WORDS:
            self.names(word + "s", "s" + word, word[:-1], word[1:])

    def test_other_words_are_names(self):
        self.names("free", "fun", "main", "show", "run", "put", "back", "alike", "great", "if", "def", "true")

    def test_other_signs(self):
        for sign in ("A", "Z", "Q", "0", "9", " ", "-", "`", "{", "_", ".", "\n", "\t", "\u00e4", "\u0430", "@", "["):
            self.no_names(sign, sign + "ab", "ab" + sign, "a" + sign + "b", "abcdefg" + sign)

    def test_no_texts(self):
        self.no_names(None, True, False, 0, 1, -5, 10 ** 59, (), [], ("a",), ["a"], ("a", "b"), nested("a", 40))


class Expressions(unittest.TestCase):
    def right(self, *things):
        for thing in things:
            self.assertIs(is_expression(thing), True, thing)

    def wrong(self, *things):
        """Each is wrong by itself and as a part of others."""
        for thing in things:
            self.assertIs(is_expression(thing), False, thing)
            self.assertIs(is_expression(("do", ONE, thing)), False, thing)
            self.assertIs(is_expression(("let", "q", thing, ("say", ("op", "+", thing, ONE)))), False, thing)

    def test_each_word(self):
        self.assertEqual(len(OF_EVERY_WORD), 11)
        self.right(*OF_EVERY_WORD.values())
        self.right(*samples())

    def test_any_thing(self):
        self.wrong(*NO_TREES)
        for at in range(41):
            self.wrong(nested(ONE, at) if at else 0, nested("take", at))
        self.wrong(tuple(range(1, 19990)), ["x"] * 19990, ("do",) + (ONE,) * 6000, ("call", "f") + (ONE,) * 6000)

    def test_a_list_in_the_place_of_a_tuple(self):
        for e in OF_EVERY_WORD.values():
            self.wrong(list(e))
            for at, kid in enumerate(kids(e)):
                self.wrong(with_kids(e, kids(e)[:at] + (list(kid),) + kids(e)[at + 1:]))

    def test_a_part_more_or_less(self):
        for word, e in OF_EVERY_WORD.items():
            if word not in ("do", "call"):
                self.wrong(e + (ONE,), e + (0,), e + ("x",), e + ([],), e[:-1])

    def test_other_words(self):
        for e in OF_EVERY_WORD.values():
            for word in (
                "nix", "", "own", "hole", "free", e[0] + "s", e[0].upper(), None, True, 0, 1, [e[0]], (e[0],), [], (),
                ("take",), ONE,
            ):
                self.wrong((word,) + e[1:])
            self.wrong(e[1:])

    def test_one_word_in_the_place_of_another(self):
        self.wrong(("num", "x"), ("name", 1), ("say",), ("take", ONE), ("pick", ONE, ONE), ("op", "+", ONE))
        self.wrong(("set", "x", ONE, ONE), ("let", "x", ONE), ("again", "x", ONE), ("call", 2, ONE))

    def test_other_things_behind_the_word(self):
        for word in ("num", "name", "op", "let", "set", "again", "call"):
            for field in OTHER_FIELDS:
                self.wrong((word, field) + OF_EVERY_WORD[word][2:])
            self.wrong((word,), (word,) + OF_EVERY_WORD[word][2:])

    def test_other_things_as_parts(self):
        for e in OF_EVERY_WORD.values():
            for at in range(len(kids(e))):
                for thing in NO_TREES:
                    self.wrong(with_kids(e, kids(e)[:at] + (thing,) + kids(e)[at + 1:]))

    def test_values(self):
        self.right(("num", 0), ("num", 1), ("num", 999999999))
        self.wrong(("num", -1), ("num", 1000000000), ("num", 10 ** 59), ("num", True), ("num", False), ("num", "0"))
        self.wrong(("num", None), ("num", (1,)), ("num", [1]))

    def test_signs(self):
        for sign in SIGNS:
            self.right(("op", sign, ONE, ONE))
        for sign in ("", "++", "<=", "==", ">", "&", " ", "+ ", "x", "add", 1, None, True, ["+"], ("+",)):
            self.wrong(("op", sign, ONE, ONE))

    def test_times(self):
        for times in range(6):
            self.right(("again", times, ONE))
        for times in (-1, 6, 10 ** 59, True, False, "2", None, (), [2]):
            self.wrong(("again", times, ONE))

    def test_counts_of_parts(self):
        for many in range(1, 7):
            self.right(("do",) + (ONE,) * many)
        self.wrong(("do",), ("do",) + (ONE,) * 7, ("do",) + (ONE,) * 8)
        for many in range(7):
            self.right(("call", "f") + (ONE,) * many)
        self.wrong(("call", "f") + (ONE,) * 7, ("call",), ("call", ONE))

    def test_names_in_them(self):
        for word, tail in (("name", ()), ("let", (ONE, ONE)), ("set", (ONE,)), ("call", ())):
            self.right((word, "abcdefgh") + tail, (word, "nums") + tail)
            for other in WORDS:
                self.wrong((word, other) + tail)

    def test_own_hole_and_let_without_name_are_none(self):
        self.wrong(("own", 0), ("hole", 0), ("let", ONE, ONE), ("let", ONE, ("own", 0)), ("free", 0), ("set", 0, ONE))

    def test_a_set_of_a_bound_name(self):
        bound = ("set", "x", ONE)
        self.wrong(("let", "x", ONE, bound))
        for inner in (
            ("do", ONE, bound), ("say", bound), ("op", "+", ONE, bound), ("again", 0, bound), ("call", "f", ONE, bound),
            ("pick", ONE, ONE, bound), ("set", "y", bound), ("let", "y", bound, ONE), ("let", "y", ONE, bound),
            ("let", "x", bound, ONE), ("let", "x", ONE, bound), ("do", ("say", ("pick", bound, ONE, ONE))),
        ):
            self.wrong(("let", "x", ONE, inner), ("let", "y", X, ("let", "x", ONE, ("do", inner))))

    def test_a_set_of_a_name_that_is_not_bound_there(self):
        bound = ("set", "x", ONE)
        self.right(
            ("let", "x", bound, ONE), ("let", "x", ("do", ("say", bound)), X), ("let", "y", ONE, bound),
            ("do", ("let", "x", ONE, X), bound), ("op", "+", bound, ("let", "x", ONE, ONE)),
            ("let", "x", ("let", "x", bound, X), X), ("set", "x", ("let", "x", ONE, X)), ("set", "x", ("set", "x", X)),
            ("let", "y", ("let", "x", ONE, X), bound), ("do", ("let", "x", ONE, ("let", "x", ONE, X)), bound),
        )
        self.wrong(("let", "x", ("let", "x", ONE, bound), ONE), ("let", "x", ONE, ("let", "x", bound, ONE)))
        self.wrong(("let", "x", ONE, ("do", ("let", "x", ONE, X), bound)))

    def test_nothing_handed_in_is_changed(self):
        for thing in (["do", ONE, ["num", 1]], ("do", ["num", 1]), (["say"], [[1, "x"], ("x",)])):
            kept = copy.deepcopy(thing)
            self.assertIs(is_expression(thing), False)
            self.assertIs(is_name(thing), False)
            self.assertEqual(thing, kept)

    def test_great_ones_are_expressions_all_the_same(self):
        many = ("do",) + (("do",) + (("do",) + (ONE,) * 6,) * 6,) * 6
        self.right(many, chain(12), chain(13), chain(30), let_chain(30), ("do",) + (many,) * 6)
        self.assertGreater(nodes(many), 150)
        deepest = chain(5000)
        self.assertIs(is_expression(deepest), True)
        self.assertIs(is_expression(("let", "x", ONE, with_piece(deepest, (0,) * 5000, ("set", "x", ONE)))), False)


class Parts(unittest.TestCase):
    def test_parts_of_each_word(self):
        told = {word: parts(e) for word, e in OF_EVERY_WORD.items()}
        self.assertEqual(told, {
            "num": (), "name": (), "op": (ONE, X), "pick": (X, ONE, Y), "let": (ONE, X), "set": (ONE,), "say": (X,),
            "take": (), "do": (ONE, X, Y), "again": (X,), "call": (ONE, X),
        })
        self.assertEqual(parts(("call", "f")), ())

    def test_nodes_and_depths_of_each_word(self):
        told = {word: (nodes(e), deep(e)) for word, e in OF_EVERY_WORD.items()}
        self.assertEqual(told, {
            "num": (1, 1), "name": (1, 1), "op": (3, 2), "pick": (4, 2), "let": (3, 2), "set": (2, 2), "say": (2, 2),
            "take": (1, 1), "do": (4, 2), "again": (2, 2), "call": (3, 2),
        })
        self.assertEqual((nodes(("call", "f")), deep(("call", "f"))), (1, 1))
        self.assertEqual(deep(("op", "+", ("say", ("say", ONE)), ("say", ONE))), 4)
        self.assertEqual(deep(("op", "+", ("say", ONE), ("say", ("say", ONE)))), 4)

    def test_parts_nodes_and_depths_of_each_piece(self):
        def plain_deep(e):
            return 1 + max([plain_deep(kid) for kid in kids(e)], default=0)

        for e in samples():
            for path, here in each_path(e):
                self.assertEqual(parts(here), kids(here))
                self.assertIs(type(parts(here)), tuple)
                self.assertEqual(nodes(here), len(each_path(here)))
                self.assertEqual(deep(here), plain_deep(here))

    def test_paths_and_pieces(self):
        self.assertEqual(paths(ONE), ((),))
        self.assertEqual(
            paths(("let", "x", ("op", "+", ONE, X), ("do", X))), ((), (0,), (0, 0), (0, 1), (1,), (1, 0)),
        )
        for e in samples():
            told = paths(e)
            self.assertIs(type(told), tuple)
            self.assertEqual(told, tuple(path for path, here in each_path(e)))
            for path, here in each_path(e):
                self.assertEqual(piece(e, path), here)

    def test_great_ones(self):
        e = chain(4000)
        self.assertEqual((nodes(e), deep(e), len(paths(chain(1500)))), (4001, 4001, 1501))
        self.assertEqual(piece(e, (0,) * 4000), X)
        self.assertEqual(piece(with_piece(e, (0,) * 4000, Y), (0,) * 4000), Y)


class WithPiece(unittest.TestCase):
    def test_at_every_path(self):
        def plain_with(e, path, other):
            if path == ():
                return other
            others = list(kids(e))
            others[path[0]] = plain_with(others[path[0]], path[1:], other)
            return with_kids(e, others)

        for e in samples():
            for path in paths(e):
                for other in (ONE, ("set", "x", ("say", X)), e):
                    told = with_piece(e, path, other)
                    self.assertEqual(told, plain_with(e, path, other))
                    self.assertEqual(piece(told, path), other)
                self.assertEqual(with_piece(e, path, piece(e, path)), e)

    def test_what_is_no_expression_is_told(self):
        told = with_piece(("let", "x", ONE, ("say", X)), (1, 0), ("set", "x", ONE))
        self.assertEqual(told, ("let", "x", ONE, ("say", ("set", "x", ONE))))
        self.assertIs(is_expression(told), False)


class NoSuchPlace(unittest.TestCase):
    def refused(self, e, path):
        for deed, things in ((piece, (e, path)), (with_piece, (e, path, ONE))):
            told = refusal(self, NoPlace, deed, *things)
            self.assertEqual(told.place, path)

    def test_numbers_that_lead_nowhere(self):
        for e in samples():
            for path in paths(e)[:20]:
                many = len(kids(piece(e, path)))
                for at in (many, many + 1, 7, -1, -many - 1, -many, 10 ** 59, -10 ** 59):
                    self.refused(e, path + (at,))
                    self.refused(e, path + (at, 0))
                    self.refused(e, path + (at, 0, -1))

    def test_behind_a_leaf(self):
        for e in (ONE, X, ("take",), ("call", "f")):
            for path in ((0,), (1,), (-1,), (0, 0), (0, 0, 0)):
                self.refused(e, path)
                self.refused(("do", ONE, e), (1,) + path)

    def test_a_number_below_0_with_right_ones_behind(self):
        self.refused(("do", ("say", ONE), ("say", X)), (-1, 0))
        self.refused(("op", "+", ONE, X), (-2,))
        self.refused(("op", "+", ("say", ONE), X), (0, -1))

    def test_truths_are_no_numbers(self):
        self.refused(("op", "+", ONE, X), (True,))
        self.refused(("op", "+", ONE, X), (False,))


if __name__ == "__main__":
    unittest.main()
