"""Dances for the tests, some written out and some drawn by a seed, so that each run sees the same."""

import random

END = ("end",)

# 0 asks 1; behind "go" 1 tells 2 and it ends, behind "no" it ends, behind "on" it comes round.
ROUND = (3, (
    ("tell", 0, 1, (("go", 1), ("no", 2), ("on", 3))),
    ("tell", 1, 2, (("a", 2), ("ab", 0))),
    END,
    ("tell", 1, 0, (("b", 0),)),
))

ONE_PLACE = (2, (END,))
TWO_ALONE = (2, (("tell", 1, 0, (("x", 0),)),))
FOUR = (4, (
    ("tell", 0, 1, (("a", 1), ("b", 2))),
    ("tell", 2, 3, (("c", 3),)),
    ("tell", 1, 2, (("d", 0), ("e", 4))),
    ("tell", 3, 0, (("abc", 4), ("z", 1), ("zzz", 3))),
    END,
))
FORTY = (2, tuple([("tell", 0, 1, (("w", n + 1),)) for n in range(39)]) + (END,))

WRITTEN = (ONE_PLACE, TWO_ALONE, ROUND, FOUR, FORTY)

WORDS = ("a", "aa", "ab", "b", "q", "xyz", "z")


def drawn_place(rng, many, count):
    if rng.random() < 0.2:
        return END
    one, other = rng.sample(range(many), 2)
    words = sorted(rng.sample(WORDS, rng.randint(1, 3)))
    return ("tell", one, other, tuple((word, rng.randrange(count)) for word in words))


def drawn_dance(rng):
    many = rng.randint(2, 4)
    count = rng.choice((1, 2, 3, 5, 8, 40))
    return (many, tuple(drawn_place(rng, many, count) for _ in range(count)))


def drawn_dances(seed, how_many):
    rng = random.Random(seed)
    return [drawn_dance(rng) for _ in range(how_many)]
