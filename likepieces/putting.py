"""Putting: the pattern of the pieces at some places, and a paper for one function in their place, or why not."""

from likepieces.bares import bare, loose
from likepieces.errors import NoPlaces
from likepieces.names import fresh_names
from likepieces.patterns import hole_count, most_shared
from likepieces.pieces import is_place, lies_in, local_names, piece_at
from likepieces.programs import MOST_PARAMS
from likepieces.putcheck import NO_NUMBER, ONCE, STILL, Holes, is_still, names_in
from likepieces.traits import are_apart, form_traits, known_traits
from likepieces.trees import built, flat

BOUND = "bound"
CLASH = "clash"


def are_places(program, thing):
    """Whether a thing is a tuple of two or more places, in order, none twice, none within another."""
    if not isinstance(thing, tuple) or len(thing) < 2 or not all([is_place(program, place) for place in thing]):
        return False
    # In order, between a place and one that lies within it stand others within it alone.
    return all([one < other and not lies_in(other, one) for one, other in zip(thing, thing[1:])])


def filling_of(lead, fillings):
    """What fills, at one place, the hole for this head of the most shared pattern, a hole's or a local name's."""
    return fillings[lead[1]] if lead[0] == "hole" else lead


def hole_heads(program, places, shared):
    """The heads of the most shared pattern for which holes stand: its holes' and those of names local at a place."""
    local = {name: True for place in places for name in local_names(program, place)}
    leads = [lead for lead, many in flat(shared) if lead[0] == "hole" or (lead[0] == "name" and lead[1] in local)]
    return list({lead: True for lead in leads})


def unstill_heads(program, places, shared, fillings, leads):
    """Those of the heads whose filling at some place is not still, as the keys of a dict."""
    known = known_traits(program)
    changes = form_traits(known, shared, ())[1]
    found = {}
    for place, row in zip(places, fillings):
        here = local_names(program, place)
        told = [form_traits(known, filling_of(lead, row), here) for lead in leads]
        for i, lead in enumerate(leads):
            if not is_still(told, changes, i):
                found[lead] = True
    return found


def pattern_at(program, places):
    """The pattern of the pieces at the places, and for each place what fills its holes, or NoPlaces."""
    if not are_places(program, places):
        raise NoPlaces("these are no places for one function")
    shared, fillings = most_shared(tuple([bare(piece_at(program, place)) for place in places]))
    leads = hole_heads(program, places, shared)
    unstill = unstill_heads(program, places, shared, fillings, leads)
    rows = []
    numbers = {}
    for at, (lead, many) in enumerate(flat(shared)):
        if lead in leads:
            key = (lead, at if lead in unstill else NO_NUMBER)
            rows.append((("hole", numbers.setdefault(key, len(numbers))), 0))
        else:
            rows.append((lead, many))
    return (built(rows), tuple([tuple([filling_of(lead, row) for lead, at in numbers]) for row in fillings]))


def is_due(word, holes, row, i):
    """Whether the word tells of hole i why no function can be put; a place's row are its fillings, their traits
    and whether they are still."""
    fillings, told, still = row
    if word == BOUND:
        return loose(fillings[i]) != ()
    if still[i]:
        return False
    return not holes.once[i] if word == ONCE else not are_apart(told[i], holes.ahead[i])


def first_due(holes, rows, many):
    """The answer with the first word that is due of one of so many holes, or None."""
    for word in (BOUND, ONCE, CLASH):
        for i in range(many):
            for number, row in enumerate(rows):
                if is_due(word, holes, row, i):
                    return ("not", word, i, number)
    return None


def paper_of(program, places, pattern, rows):
    """The paper for the pattern at the places, its function and params having new names."""
    taken = [function[0] for function in program[0]] + names_in(pattern, ("name", "set"))
    name, *params = fresh_names(1 + hole_count(pattern), taken)
    told = []
    for place, (fillings, seen, still) in zip(places, rows):
        told.append((place, fillings, tuple([STILL if flag else ONCE for flag in still])))
    # The first piece has all calls of the pattern, so what they call stands ahead of its body.
    index = places[0][0]
    return (index, name, tuple(params), pattern, tuple(told))


def paper_for(program, places):
    """("put", paper) for the pattern at the places, or ("not", word, hole, row), or NoPlaces."""
    pattern, fillings = pattern_at(program, places)
    many = hole_count(pattern)
    if pattern[0] == "hole":
        return ("not", "hole", 0, NO_NUMBER)
    if many > MOST_PARAMS:
        return ("not", "many", many, NO_NUMBER)
    known = known_traits(program)
    holes = Holes(known, pattern)
    rows = []
    for place, inner in zip(places, fillings):
        here = local_names(program, place)
        told = [form_traits(known, b, here) for b in inner]
        rows.append((inner, told, [is_still(told, holes.changes, i) for i in range(many)]))
    due = first_due(holes, rows, many)
    return due if due is not None else ("put", paper_of(program, places, pattern, rows))
