import random
import unittest

from reelhall.knowing import apart
from reelhall.things import goes, is_dance, renamed
from tests.examples import END, FOUR, ONE_PLACE, ROUND, WRITTEN, drawn_dances, drawn_orders


def turned_back(order):
    return tuple(order.index(k) for k in range(len(order)))


class RenamedTest(unittest.TestCase):
    def test_each_dancer_under_its_new_number(self):
        self.assertEqual(renamed(ROUND, (2, 0, 1), (0, 1, 2, 3)), (3, (
            ("tell", 2, 0, (("go", 1), ("no", 2), ("on", 3))),
            ("tell", 0, 1, (("a", 2), ("ab", 0))),
            END,
            ("tell", 0, 2, (("b", 0),)),
        )))

    def test_each_place_under_its_new_number(self):
        self.assertEqual(renamed(ROUND, (0, 1, 2), (0, 2, 3, 1)), (3, (
            ("tell", 0, 1, (("go", 2), ("no", 3), ("on", 1))),
            ("tell", 1, 0, (("b", 0),)),
            ("tell", 1, 2, (("a", 3), ("ab", 0))),
            END,
        )))

    def test_both_at_once(self):
        self.assertEqual(renamed(FOUR, (1, 2, 3, 0), (0, 4, 1, 2, 3)), (4, (
            ("tell", 1, 2, (("a", 4), ("b", 1))),
            ("tell", 2, 3, (("d", 0), ("e", 3))),
            ("tell", 0, 1, (("abc", 3), ("z", 4), ("zzz", 2))),
            END,
            ("tell", 3, 0, (("c", 2),)),
        )))

    def test_the_same_numbers_leave_the_dance(self):
        for dance in WRITTEN:
            same = renamed(dance, tuple(range(dance[0])), tuple(range(len(dance[1]))))
            self.assertEqual(same, dance)
        self.assertEqual(renamed(ONE_PLACE, (1, 0), (0,)), ONE_PLACE)

    def test_it_is_a_dance_whose_choices_rise(self):
        rng = random.Random(31)
        for dance in drawn_dances(32, 80):
            dancers, numbers = drawn_orders(rng, dance)
            told = renamed(dance, dancers, numbers)
            self.assertIs(is_dance(told), True)
            self.assertEqual(renamed(dance, dancers, numbers), told)

    def test_each_place_stands_where_numbers_says(self):
        rng = random.Random(33)
        for dance in drawn_dances(34, 80):
            dancers, numbers = drawn_orders(rng, dance)
            many, places = renamed(dance, dancers, numbers)
            self.assertEqual((many, len(places)), (dance[0], len(dance[1])))
            for number, place in enumerate(dance[1]):
                moved = places[numbers[number]]
                self.assertEqual(moved[0], place[0])
                if place != END:
                    self.assertEqual(moved[1:3], (dancers[place[1]], dancers[place[2]]))
                    self.assertEqual(moved[3], tuple((word, numbers[to]) for word, to in place[3]))

    def test_renamed_back_it_is_the_dance_again(self):
        rng = random.Random(35)
        for dance in drawn_dances(36, 80):
            dancers, numbers = drawn_orders(rng, dance)
            there = renamed(dance, dancers, numbers)
            self.assertEqual(renamed(there, turned_back(dancers), turned_back(numbers)), dance)

    def test_ways_and_places_apart_go_along(self):
        rng = random.Random(37)
        for dance in drawn_dances(38, 60):
            dancers, numbers = drawn_orders(rng, dance)
            there = renamed(dance, dancers, numbers)
            for word, number in ([] if dance[1][0] == END else dance[1][0][3]):
                self.assertEqual(goes(there, (word,)), numbers[number])
            for dancer in range(dance[0]):
                expected = sorted(numbers[p] for p in apart(dance, dancer, (0,)))
                self.assertEqual(apart(there, dancers[dancer], (0,)), tuple(expected))

    def test_nothing_is_refused_beyond_the_bounds(self):
        dance = (5, (("tell", 4, 0, (("a", 1), ("b", 2), ("c", 0), ("d", 1))), END, ("tell", 1, 4, (("abcd", 0),))))
        self.assertEqual(renamed(dance, (4, 3, 2, 1, 0), (0, 2, 1)), (5, (
            ("tell", 0, 4, (("a", 2), ("b", 1), ("c", 0), ("d", 2))), ("tell", 3, 0, (("abcd", 0),)), END)))


if __name__ == "__main__":
    unittest.main()
