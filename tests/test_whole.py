"""[2], [3] and the interface: what is promised over the whole program."""

import copy
import importlib
import inspect
import random
import unittest

from likepieces.backs import put_back, same_program
from likepieces.bares import same
from likepieces.desk import Desk
from likepieces.likes import alike
from likepieces.names import exchanged, free_names
from likepieces.pieces import piece_at, places_of
from likepieces.programs import is_program, work
from likepieces.putcheck import lets_put
from likepieces.puts import put
from likepieces.putting import paper_for, pattern_at
from likepieces.reading import read_program
from likepieces.renaming import box_names, exchanged_program
from likepieces.runs import run
from likepieces.savings import offers, saving, size
from likepieces.tablecheck import lets_table
from likepieces.tables import great, marks, table
from likepieces.texts import show_program
from likepieces.trees import deep
from tests.backing import bodies
from tests.samples import some_programs
from tests.tabling import plain_shape

INPUTS = ((), (0,), (1,), (3, 0), (2, 1, 0), (7, 6, 5, 4, 3, 2, 1), (1,) * 20, tuple(range(20)))

INTERFACE = {
    "trees": {"is_name": 1, "is_expression": 1, "parts": 1, "nodes": 1, "deep": 1, "paths": 1, "piece": 2, "with_piece": 3},
    "names": {"free_names": 1, "bound_at": 2, "exchanged": 2},
    "bares": {"is_bare": 1, "loose": 1, "bare": 1, "named": 2, "same": 2},
    "likes": {"shape": 1, "alike": 2},
    "patterns": {"is_pattern": 1, "hole_count": 1, "filled": 2, "got": 2, "most_shared": 1},
    "programs": {"is_program": 1, "bodies": 1, "work": 1},
    "runs": {"done": 5, "run": 2},
    "pieces": {"is_place": 2, "piece_at": 2, "local_names": 2, "places_of": 2},
    "tables": {"table": 2, "great": 2, "marks": 2},
    "tablecheck": {"lets_table": 3},
    "traits": {"traits": 3, "is_quiet": 1, "are_apart": 2, "stands_once": 2, "ahead_of": 3},
    "putcheck": {"lets_put": 2},
    "puts": {"put": 2},
    "putting": {"pattern_at": 2, "paper_for": 2},
    "backs": {"put_back": 2, "same_program": 2},
    "savings": {"size": 1, "saving": 2, "offers": 2},
    "renaming": {"box_names": 1, "exchanged_program": 2},
    "texts": {"show": 1, "show_program": 1},
    "reading": {"read": 1, "read_program": 1},
}


class Interface(unittest.TestCase):
    def test_all_is_there(self):
        for module, names in INTERFACE.items():
            there = importlib.import_module(f"likepieces.{module}")
            for name, many in names.items():
                self.assertEqual(len(inspect.signature(getattr(there, name)).parameters), many, (module, name))
        self.assertEqual(len(inspect.signature(Desk).parameters), 0)
        self.assertEqual(len(inspect.signature(Desk().say).parameters), 1)


class Whole(unittest.TestCase):
    def programs(self, seed, many):
        return some_programs(seed, many, copies=6) + some_programs(seed + 1, many // 2, names=("a", "x", "y"), copies=6)

    def test_alike_by_a_told_exchange_and_else_by_none(self):
        for program in self.programs(381, 40):
            for rows in (great(program, 1), [places for shape, places in table(program, 1)]):
                for places in rows:
                    one = piece_at(program, places[0])
                    for place in places:
                        other = piece_at(program, place)
                        pairs = alike(one, other)
                        self.assertEqual((len({x for x, y in pairs}), len({y for x, y in pairs})), (len(pairs), len(pairs)))
                        self.assertIs(same(exchanged(one, pairs), other), True)
            firsts = [piece_at(program, places[0]) for shape, places in table(program, 1)]
            for at, one in enumerate(firsts):
                for other in firsts[:at]:
                    self.assertIsNone(alike(one, other))
                    self.assertNotEqual(plain_shape(one), plain_shape(other))

    def test_unlike_by_every_exchange(self):
        """All exchanges of the free names of small pieces are tried."""
        rng = random.Random(383)
        for program in self.programs(384, 30):
            pieces = [piece_at(program, place) for place in places_of(program, 1)]
            for again in range(20):
                one, other = rng.choice(pieces), rng.choice(pieces)
                free, others = free_names(one), free_names(other)
                if len(free) <= 3:
                    found = any(same(exchanged(one, tuple(zip(free, row))), other) for row in orders(others, len(free)))
                    self.assertEqual(found, alike(one, other) is not None, (one, other))

    def test_each_group_lies_within_a_great_one(self):
        for program in self.programs(385, 40):
            for least in (1, 3):
                greatest = great(program, least)
                for shape, places in table(program, least):
                    if len(places) > 1:
                        self.assertTrue(any(self.lies(places, group) for group in greatest), (program, places))
                self.assertIs(lets_table(program, least, (table(program, least), marks(program, least))), True)

    def lies(self, places, group):
        """Whether the places are those of the group with one path behind each."""
        number, path = places[0]
        paths = [path[len(way):] for other, way in group if other == number and path[:len(way)] == way]
        return any(places == tuple(sorted((other, way + rest) for other, way in group)) for rest in paths)

    def test_offers(self):
        many = 0
        for program in self.programs(387, 140):
            for number, places in offers(program, 2):
                word, paper = paper_for(program, places)
                self.assertEqual((word, lets_put(program, paper), saving(program, paper)), ("put", True, number))
                after = put(program, paper)
                self.assertIs(is_program(after), True)
                self.assertEqual(size(program) - size(after), number)
                self.assertIs(same_program(put_back(after, paper[1]), program), True)
                for row in INPUTS if work(program) <= 2000 else ():
                    self.assertEqual(run(after, row), run(program, row))
                many += 1
        self.assertGreater(many, 200)

    def test_a_program_with_other_names(self):
        rng = random.Random(389)
        names = ("p", "q", "r", "f", "g", "h", "a", "b", "x", "y", "total", "k")
        for program in self.programs(390, 60):
            boxes = box_names(program)
            other = exchanged_program(program, tuple(zip(boxes, rng.sample(names, len(boxes)))))
            for least in (1, 2, 4):
                self.assertEqual(table(other, least), table(program, least))
                self.assertEqual(great(other, least), great(program, least))
                self.assertEqual(offers(other, least), offers(program, least))
            for number, places in offers(other, 2):
                told = paper_for(other, places)
                self.assertIs(lets_put(other, told[1]), True)
                after = put(other, told[1])
                self.assertIs(same_program(put_back(after, told[1][1]), other), True)
                for row in INPUTS[2:6] if work(other) <= 2000 else ():
                    self.assertEqual(run(after, row), run(other, row))

    def test_read_out_of_a_told_text(self):
        for program in self.programs(392, 60):
            if max(deep(body) for body in bodies(program)) > 12:
                continue
            read = read_program(show_program(program))
            self.assertEqual(read, program)
            for number, places in offers(read, 2)[:3]:
                after = put(read, paper_for(read, places)[1])
                again = read_program(show_program(after))
                self.assertEqual(again, after)
                self.assertEqual(offers(again, 2), offers(after, 2))

    def test_what_is_told_hangs_on_what_is_handed_in_alone(self):
        programs = self.programs(394, 20)
        asked = [self.ask(program) for program in programs]
        for program, told in reversed(list(zip(programs, asked))):
            kept = copy.deepcopy(program)
            self.assertEqual(self.ask(copy.deepcopy(program)), told)
            self.assertEqual(program, kept)

    def ask(self, program):
        groups = great(program, 2)
        told = [(pattern_at(program, places), paper_for(program, places)) for places in groups]
        backs = [put_back(program, function[0]) for function in program[0]]
        return (groups, told, backs, offers(program, 2), show_program(program), exchanged_program(program, (("x", "new"),)), size(program))


def orders(things, many):
    """All tuples of so many unlike ones of the things."""
    if many == 0:
        return [()]
    return [(thing,) + rest for at, thing in enumerate(things) for rest in orders(things[:at] + things[at + 1:], many - 1)]


if __name__ == "__main__":
    unittest.main()
