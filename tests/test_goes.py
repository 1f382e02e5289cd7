import random
import unittest

from reelhall.things import goes
from tests.examples import END, FORTY, FOUR, ONE_PLACE, ROUND, TWO_ALONE, WRITTEN, drawn_dances


class GoesTest(unittest.TestCase):
    def assert_goes(self, dance, way, number):
        told = goes(dance, way)
        self.assertEqual(told, number, (dance, way))
        self.assertNotIsInstance(told, bool)
        self.assertEqual(goes(dance, way), told)

    def test_the_empty_way_leads_to_place_0(self):
        for dance in WRITTEN:
            self.assert_goes(dance, (), 0)

    def test_ways_that_end_at_a_tell(self):
        self.assert_goes(ROUND, ("go",), 1)
        self.assert_goes(ROUND, ("on",), 3)
        self.assert_goes(FOUR, ("a", "c"), 3)
        self.assert_goes(FORTY, ("w",) * 38, 38)

    def test_ways_that_end_at_an_end(self):
        self.assert_goes(ROUND, ("no",), 2)
        self.assert_goes(ROUND, ("go", "a"), 2)
        self.assert_goes(FOUR, ("b", "e"), 4)
        self.assert_goes(FORTY, ("w",) * 39, 39)

    def test_ways_that_go_round(self):
        self.assert_goes(ROUND, ("on", "b", "go", "ab", "on", "b"), 0)
        self.assert_goes(ROUND, ("on", "b") * 500 + ("go",), 1)
        self.assert_goes(TWO_ALONE, ("x",) * 2000, 0)
        self.assert_goes(FOUR, ("a", "c", "zzz", "zzz", "z"), 1)

    def test_a_word_that_is_not_among_the_choices(self):
        for way in (("a",), ("g",), ("goo",), ("",), ("GO",), ("go", "go"), ("go", "b"), ("on", "b", "b"),
                    ("a", "no"), ("tell",), ("end",)):
            self.assert_goes(ROUND, way, None)

    def test_a_word_behind_an_end(self):
        self.assert_goes(ONE_PLACE, ("a",), None)
        self.assert_goes(ROUND, ("no", "a"), None)
        self.assert_goes(ROUND, ("no", "go"), None)
        self.assert_goes(ROUND, ("go", "a", "a"), None)
        self.assert_goes(FORTY, ("w",) * 40, None)

    def test_each_place_on_the_way_is_come_to_by_one_choice(self):
        rng = random.Random(5)
        for dance in drawn_dances(21, 60):
            number, way = 0, ()
            while len(way) < 30 and dance[1][number] != END:
                choices = dance[1][number][3]
                words = [word for word, _ in choices]
                for word in ("a", "aa", "ab", "b", "q", "xyz", "z", "y"):
                    if word not in words:
                        self.assert_goes(dance, way + (word,), None)
                word, number = rng.choice(choices)
                way += (word,)
                self.assert_goes(dance, way, number)

    def test_nothing_is_refused_beyond_the_bounds(self):
        long_row = (5, tuple(("tell", 4, 0, (("abcd", n + 1),)) for n in range(50)) + (END,))
        self.assert_goes(long_row, ("abcd",) * 50, 50)
        wide = (2, (("tell", 0, 1, (("a", 0), ("b", 0), ("c", 0), ("d", 1))), END))
        self.assert_goes(wide, ("a", "d"), 1)


if __name__ == "__main__":
    unittest.main()
