import random
import unittest

from reelhall.knowing import apart
from tests.examples import END, FORTY, FOUR, ONE_PLACE, ROUND, TWO_ALONE, WRITTEN, drawn_dances


def grown(dance, dancer, some):
    """The same told otherwise: single steps are added until none is new."""
    places = set(some)
    while True:
        more = {to for p in places if dance[1][p] != END and dancer not in dance[1][p][1:3]
                for _, to in dance[1][p][3]}
        if more <= places:
            return tuple(sorted(places))
        places |= more


class ApartTest(unittest.TestCase):
    def assert_apart(self, dance, dancer, some, expected):
        told = apart(dance, dancer, some)
        self.assertEqual(told, expected, (dance, dancer, some))
        self.assertIsInstance(told, tuple)
        self.assertFalse([p for p in told if isinstance(p, bool)])
        self.assertEqual(apart(dance, dancer, some), told)

    def test_no_places(self):
        for dance in WRITTEN:
            for dancer in range(dance[0]):
                self.assert_apart(dance, dancer, (), ())

    def test_places_at_which_the_dancer_tells_or_hears(self):
        self.assert_apart(ROUND, 0, (0,), (0,))
        self.assert_apart(ROUND, 1, (0,), (0,))
        self.assert_apart(ROUND, 1, (1,), (1,))
        self.assert_apart(ROUND, 2, (1,), (1,))
        self.assert_apart(ROUND, 0, (3,), (3,))
        self.assert_apart(ROUND, 1, (0, 1, 3), (0, 1, 3))
        self.assert_apart(TWO_ALONE, 0, (0,), (0,))
        self.assert_apart(TWO_ALONE, 1, (0,), (0,))

    def test_ends(self):
        for dancer in (0, 1):
            self.assert_apart(ONE_PLACE, dancer, (0,), (0,))
        for dancer in (0, 1, 2):
            self.assert_apart(ROUND, dancer, (2,), (2,))
        self.assert_apart((3, (END, END, END)), 1, (2, 0), (0, 2))

    def test_one_place_from_which_others_are_come_to(self):
        self.assert_apart(ROUND, 2, (0,), (0, 1, 2, 3))
        self.assert_apart(ROUND, 0, (1,), (0, 1, 2))
        self.assert_apart(ROUND, 2, (3,), (0, 1, 2, 3))
        self.assert_apart(FOUR, 0, (1,), (1, 3))
        self.assert_apart(FOUR, 1, (1,), (1, 3, 4))
        self.assert_apart(FOUR, 3, (0,), (0, 1, 2, 4))

    def test_several_places_in_any_order_and_twice(self):
        self.assert_apart(ROUND, 0, (3, 1), (0, 1, 2, 3))
        self.assert_apart(ROUND, 1, (3, 2, 0), (0, 2, 3))
        self.assert_apart(ROUND, 1, (2, 2, 0, 2), (0, 2))
        self.assert_apart(FOUR, 0, (2, 1), (0, 1, 2, 3, 4))
        self.assert_apart(FOUR, 2, (3, 2), (1, 2, 3, 4))

    def test_rounds(self):
        ring = (3, tuple(("tell", 0, 1, (("r", (n + 1) % 5),)) for n in range(5)) + (END,))
        for n in range(5):
            self.assert_apart(ring, 2, (n,), (0, 1, 2, 3, 4))
            self.assert_apart(ring, 0, (n,), (n,))
        self.assert_apart(ring, 2, (5, 3), (0, 1, 2, 3, 4, 5))
        itself = (3, (("tell", 0, 1, (("a", 0), ("b", 0))),))
        self.assert_apart(itself, 2, (0,), (0,))

    def test_nothing_is_come_to_through_a_place_of_the_dancer(self):
        row = (4, (
            ("tell", 0, 1, (("a", 1),)),
            ("tell", 2, 3, (("a", 2),)),
            ("tell", 0, 1, (("a", 3),)),
            END,
        ))
        for dancer in (2, 3):
            self.assert_apart(row, dancer, (0,), (0, 1))
            self.assert_apart(row, dancer, (0, 1), (0, 1))
            self.assert_apart(row, dancer, (1,), (1,))
            self.assert_apart(row, dancer, (2,), (2, 3))

    def test_from_the_farthest(self):
        row = (3, FORTY[1])
        self.assert_apart(row, 2, (0,), tuple(range(40)))
        self.assert_apart(row, 2, (37,), (37, 38, 39))
        self.assert_apart(row, 1, (37, 4), (4, 37))

    def test_drawn_dances(self):
        rng = random.Random(41)
        for dance in drawn_dances(42, 120):
            count = len(dance[1])
            for dancer in range(dance[0]):
                some = tuple(rng.randrange(count) for _ in range(rng.randint(0, 4)))
                told = apart(dance, dancer, some)
                self.assert_apart(dance, dancer, some, grown(dance, dancer, some))
                self.assertLessEqual(set(some), set(told))
                self.assert_apart(dance, dancer, told, told)

    def test_nothing_is_refused_beyond_the_bounds(self):
        places = tuple(("tell", 4, 0, (("abcd", n + 1),)) for n in range(50)) + (END,)
        self.assert_apart((6, places), 5, (0,), tuple(range(51)))
        self.assert_apart((6, places), 4, (50, 0), (0, 50))


if __name__ == "__main__":
    unittest.main()
