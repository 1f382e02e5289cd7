"""Dances for the tests, some written out and some drawn by a seed, so that each run sees the same."""

import functools
import random

from reelhall.halls import Hall
from reelhall.parts import is_fair

END = ("end",)

# 0 asks 1; behind "go" 1 tells 2 and it ends, behind "no" it ends, behind "on" it comes round.
ROUND = (3, (
    ("tell", 0, 1, (("go", 1), ("no", 2), ("on", 3))),
    ("tell", 1, 2, (("a", 2), ("ab", 0))),
    END,
    ("tell", 1, 0, (("b", 0),)),
))

ONE_PLACE = (2, (END,))
TWO_ALONE = (2, (("tell", 1, 0, (("x", 0),)),))
FOUR = (4, (
    ("tell", 0, 1, (("a", 1), ("b", 2))),
    ("tell", 2, 3, (("c", 3),)),
    ("tell", 1, 2, (("d", 0), ("e", 4))),
    ("tell", 3, 0, (("abc", 4), ("z", 1), ("zzz", 3))),
    END,
))
FORTY = (2, tuple([("tell", 0, 1, (("w", n + 1),)) for n in range(39)]) + (END,))

WRITTEN = (ONE_PLACE, TWO_ALONE, ROUND, FOUR, FORTY)

# 0 tells 1 how it goes on, 1 passes it on to 2; 2 sends it round again.
PASSED_ON = (3, (
    ("tell", 0, 1, (("go", 1), ("no", 2))),
    ("tell", 1, 2, (("a", 3), ("b", 3))),
    ("tell", 1, 2, (("c", 4),)),
    ("tell", 2, 0, (("d", 0),)),
    END,
))
# What 0 tells 1, and how often, neither 2 nor 3 ever knows: one state of theirs belongs to both sides of it.
TWO_PAIRS = (4, (
    ("tell", 0, 1, (("l", 1), ("m", 0), ("r", 2))),
    ("tell", 2, 3, (("a", 3), ("b", 4))),
    ("tell", 2, 3, (("a", 4), ("b", 3))),
    ("tell", 3, 2, (("x", 5),)),
    ("tell", 3, 2, (("x", 5),)),
    END,
))
# Behind the first word 2 and 3 rest, and the others go round for ever.
LATER_REST = (4, (
    ("tell", 2, 3, (("y", 1),)),
    ("tell", 0, 1, (("x", 1), ("z", 1))),
))
RESTS_AT_ONCE = (3, (("tell", 0, 1, (("x", 0),)),))
# 0 may tell all it ever tells before 1 and 2 hear a word of it.
TOLD_AHEAD = (3, (
    ("tell", 0, 1, (("a", 1), ("b", 1))),
    ("tell", 0, 2, (("c", 2), ("d", 3))),
    ("tell", 0, 1, (("b", 0),)),
    ("tell", 0, 1, (("e", 4),)),
    ("tell", 1, 2, (("f", 5),)),
    END,
))

WRITTEN_FAIR = (ONE_PLACE, TWO_ALONE, FORTY, PASSED_ON, TWO_PAIRS, LATER_REST, RESTS_AT_ONCE, TOLD_AHEAD)

WORDS = ("a", "aa", "ab", "b", "q", "xyz", "z")


def drawn_place(rng, many, count):
    if rng.random() < 0.2:
        return END
    one, other = rng.sample(range(many), 2)
    words = sorted(rng.sample(WORDS, rng.randint(1, 3)))
    return ("tell", one, other, tuple((word, rng.randrange(count)) for word in words))


def drawn_dance(rng):
    many = rng.randint(2, 4)
    count = rng.choice((1, 2, 3, 5, 8, 40))
    return (many, tuple(drawn_place(rng, many, count) for _ in range(count)))


def drawn_dances(seed, how_many):
    rng = random.Random(seed)
    return [drawn_dance(rng) for _ in range(how_many)]


def come_to(dance):
    """The places that are come to from place 0."""
    found, waiting = {0}, [0]
    while waiting:
        place = dance[1][waiting.pop()]
        nexts = [] if place == END else [to for _, to in place[3]]
        waiting.extend(to for to in set(nexts) - found)
        found.update(nexts)
    return found


def changed(rng, dance, most):
    """The dance with a place or a choice drawn anew; sometimes a choice leads to a place that was not there."""
    many, places = dance[0], list(dance[1])
    how = rng.choice(("more", "place", "choice"))
    if how == "more" and len(places) < most:
        places.append(drawn_place(rng, many, len(places) + 1))
    k = rng.randrange(len(places))
    if how == "place" or places[k] == END:
        places[k] = drawn_place(rng, many, len(places))
    else:
        choices = list(places[k][3])
        j = rng.randrange(len(choices))
        to = len(places) - 1 if how == "more" else rng.randrange(len(places))
        choices[j] = (choices[j][0], to)
        places[k] = places[k][:3] + (tuple(choices),)
    return (many, tuple(places))


def grown_fair_dance(rng, many, most, ends):
    """Drawn dances are seldom fair and large, so a fair one is changed step by step and stays fair, and as large."""
    dance = (many, (("tell", 0, 1, (("a", 1 if ends else 0),)), END))
    for _ in range(60 + 10 * most):
        other = changed(rng, dance, most)
        stays = [other[1][number] for number in come_to(other)]
        if len(stays) >= len(come_to(dance)) and other[1][0] != END and (not ends or END in stays) and is_fair(other):
            dance = other
    return dance


@functools.cache
def fair_dances():
    rng = random.Random(51)
    grown = [grown_fair_dance(rng, many, most, ends)
             for many in (2, 3, 3, 4, 4) for most in (4, 8, 40) for ends in (True, False) for _ in range(3)]
    return WRITTEN_FAIR + tuple(grown)


def mover(move):
    """Who does it: who tells, or who hears."""
    return move[1] if move[0] == "tell" else move[2]


def did(done, dancer):
    return [move for move in done if mover(move) == dancer]


def does(dance, way, dancer):
    """What the dancer does on the way."""
    number, found = 0, []
    for word in way:
        _, one, other, choices = dance[1][number]
        if dancer == one:
            found.append(("tell", one, other, word))
        if dancer == other:
            found.append(("hear", one, other, word))
        number = dict(choices)[word]
    return found


def drawn_way(rng, dance, most):
    number, way = 0, ()
    while len(way) < most and dance[1][number] != END:
        word, number = rng.choice(dance[1][number][3])
        way += (word,)
    return way


def danced(rng, dance, most):
    """A hall after a drawn run of moves, in which some dancers are quicker than others."""
    hall = Hall(dance)
    haste = [rng.choice((1, 5, 50)) for _ in range(dance[0])]
    for _ in range(rng.randint(0, most)):
        moves = hall.moves()
        if not moves:
            break
        hall.do(rng.choices(moves, [haste[mover(move)] for move in moves])[0])
    return hall


def again(dance, done):
    """Another hall in which the same was done."""
    hall = Hall(dance)
    for move in done:
        hall.do(move)
    return hall


def rows_of(hall, many):
    return {(one, other): hall.row(one, other) for one in range(many) for other in range(many) if one != other}


def all_of(hall, many):
    """All that a hall tells, to see whether something changed."""
    return (hall.states(), rows_of(hall, many), hall.moves(), hall.done(), hall.is_over())


def drawn_orders(rng, dance):
    """New numbers for the dancers and the places of a dance, place 0 staying place 0."""
    dancers = list(range(dance[0]))
    others = list(range(1, len(dance[1])))
    rng.shuffle(dancers)
    rng.shuffle(others)
    return tuple(dancers), (0,) + tuple(others)


def is_plain(thing):
    """Made of tuples, texts, whole numbers, truths and None alone."""
    if type(thing) is tuple:
        return all(is_plain(part) for part in thing)
    return type(thing) in (str, int, bool) or thing is None
