import random
import unittest

from reelhall.halls import Hall
from reelhall.things import goes
from reelhall.ways import way_of
from tests.examples import (END, FORTY, ONE_PLACE, PASSED_ON, TOLD_AHEAD, TWO_ALONE, TWO_PAIRS, again, danced, did,
                            does, drawn_way, fair_dances, is_plain, mover)


def both(one, other, word):
    return (("tell", one, other, word), ("hear", one, other, word))


def at_once(dance, way):
    """The way danced so that each word is heard as soon as it is told."""
    number, done = 0, ()
    for word in way:
        _, one, other, choices = dance[1][number]
        done += both(one, other, word)
        number = dict(choices)[word]
    return done


class WayOfTest(unittest.TestCase):
    def assert_way(self, dance, done):
        """What is told is a way, and what each did is the beginning of what it does on it."""
        self.assertEqual(again(dance, done).done(), tuple(done))
        way = way_of(dance, done)
        self.assertTrue(is_plain(way))
        self.assertIsInstance(way, tuple)
        self.assertIsNotNone(goes(dance, way), (dance, done, way))
        for dancer in range(dance[0]):
            mine = did(done, dancer)
            self.assertEqual(does(dance, way, dancer)[:len(mine)], mine, (dance, done, way))
        self.assertEqual(way_of(dance, done), way)
        return way

    def test_nothing_done(self):
        for dance in fair_dances():
            self.assert_way(dance, ())
        self.assertEqual(self.assert_way(ONE_PLACE, ()), ())

    def test_a_part_of_a_way(self):
        done = both(0, 1, "go") + both(1, 2, "b")
        self.assertEqual(self.assert_way(PASSED_ON, done)[:2], ("go", "b"))
        self.assertEqual(self.assert_way(FORTY, both(0, 1, "w") * 17)[:17], ("w",) * 17)

    def test_a_whole_way(self):
        way = ("go", "a", "d", "go", "b", "d", "no", "c")
        self.assertEqual(self.assert_way(PASSED_ON, at_once(PASSED_ON, way)), way)
        self.assertEqual(self.assert_way(FORTY, at_once(FORTY, ("w",) * 39)), ("w",) * 39)
        way = ("m", "m", "r", "b", "x")
        self.assertEqual(self.assert_way(TWO_PAIRS, at_once(TWO_PAIRS, way)), way)

    def test_words_told_but_not_heard(self):
        self.assertEqual(self.assert_way(PASSED_ON, (("tell", 0, 1, "no"),))[:1], ("no",))
        self.assertEqual(self.assert_way(TWO_ALONE, (("tell", 1, 0, "x"),) * 9)[:9], ("x",) * 9)
        told = (("tell", 0, 1, "b"), ("tell", 0, 2, "c"), ("tell", 0, 1, "b"), ("tell", 0, 1, "a"),
                ("tell", 0, 2, "d"), ("tell", 0, 1, "e"))
        self.assertEqual(self.assert_way(TOLD_AHEAD, told)[:6], ("b", "c", "b", "a", "d", "e"))
        self.assertEqual(self.assert_way(TOLD_AHEAD, told + (("hear", 0, 2, "c"),))[:6],
                         ("b", "c", "b", "a", "d", "e"))

    def test_dancers_ahead_of_others_in_either_order(self):
        first, second = both(0, 1, "r"), both(2, 3, "b")
        for done in (first + second, second + first, (first[0],) + second + (first[1],),
                     (second[0],) + first + (second[1],), (first[0], second[0], second[1], first[1])):
            self.assertEqual(self.assert_way(TWO_PAIRS, done)[:2], ("r", "b"))

    def test_who_is_ahead_has_no_say_in_the_words_of_others(self):
        # 2 tells "a" and has "x" told to it, before 0 has told anything; later 0 tells what it likes.
        ahead = both(2, 3, "a") + both(3, 2, "x")
        way = self.assert_way(TWO_PAIRS, ahead)
        self.assertIn(way[-3:], (("l", "a", "x"), ("r", "a", "x")))
        for words in (("l",), ("r",), ("m", "r"), ("m", "m", "m", "l")):
            done = ahead
            for word in words:
                done += both(0, 1, word)
            self.assertEqual(self.assert_way(TWO_PAIRS, done), words + ("a", "x"))

    def test_a_dancer_far_ahead(self):
        # It is a long way till 2 tells 3, and 0 may still go round at each place of it.
        dance = (4, tuple(("tell", 0, 1, (("a", n), ("b", n + 1))) for n in range(20))
                 + (("tell", 2, 3, (("y", 0), ("z", 0))),))
        ahead = both(2, 3, "y") + both(2, 3, "y") + (("tell", 2, 3, "z"),)
        way = self.assert_way(dance, ahead)
        self.assertEqual([word for word in way if word in "yz"], ["y", "y", "z"])
        self.assertEqual(way.count("b"), 60)
        done = ahead + both(0, 1, "a") * 7 + both(0, 1, "b") + (("tell", 0, 1, "a"),)
        self.assertEqual(self.assert_way(dance, done)[:9], ("a",) * 7 + ("b", "a"))

    def test_two_dancers_ahead_of_one_that_leads_elsewhere(self):
        # 2 goes to its turn behind "l", but 3 told ahead at a place on the way there, and what it told leads on.
        dance = (4, (
            ("tell", 0, 1, (("l", 1), ("r", 2))),
            ("tell", 3, 1, (("c", 3), ("d", 4))),
            ("tell", 3, 1, (("c", 4), ("d", 3))),
            ("tell", 2, 0, (("e", 5), ("f", 5))),
            ("tell", 2, 0, (("e", 6), ("f", 5))),
            END,
            END,
        ))
        for third in "cd":
            for second in "ef":
                ahead = (("tell", 3, 1, third), ("tell", 2, 0, second))
                for done in (ahead, ahead[::-1]):
                    self.assertEqual(self.assert_way(dance, done)[1:], (third, second))
                    for first in "lr":
                        self.assertEqual(self.assert_way(dance, done + both(0, 1, first)), (first, third, second))

    def test_dances_that_go_round(self):
        way = ("go", "a", "d") * 60
        self.assertEqual(self.assert_way(PASSED_ON, at_once(PASSED_ON, way)), way)
        # 2 is rounds ahead of 0 and 1.
        across = (4, (("tell", 0, 1, (("a", 1), ("b", 1))), ("tell", 2, 3, (("c", 0), ("d", 0)))))
        done = (("tell", 2, 3, "c"), ("tell", 2, 3, "d")) * 25 + both(0, 1, "b") * 3 + (("tell", 0, 1, "a"),)
        way = self.assert_way(across, done)
        self.assertEqual(way[:8], ("b", "c", "b", "d", "b", "c", "a", "d"))
        self.assertEqual(way[1::2], ("c", "d") * 25)

    def test_drawn_runs(self):
        rng = random.Random(81)
        longer = 0
        for dance in fair_dances():
            for most in (3, 10, 30, 80):
                done = danced(rng, dance, most).done()
                way = self.assert_way(dance, done)
                longer += len(way) > len([move for move in done if move[0] == "tell"])
        # The way often goes on by words that none has told yet.
        self.assertGreater(longer, 30)

    def test_each_step_of_a_drawn_run(self):
        rng = random.Random(82)
        for dance in fair_dances():
            done = danced(rng, dance, 15).done()
            for k in range(len(done)):
                self.assert_way(dance, done[:k])

    def test_one_dancer_as_far_ahead_as_it_can(self):
        for dance in fair_dances():
            for dancer in range(dance[0]):
                hall = Hall(dance)
                rng = random.Random(dancer)
                for _ in range(12):
                    mine = [move for move in hall.moves() if mover(move) == dancer]
                    if mine:
                        hall.do(rng.choice(mine))
                self.assert_way(dance, hall.done())

    def test_drawn_whole_ways(self):
        rng = random.Random(83)
        for dance in fair_dances():
            way = drawn_way(rng, dance, 30)
            self.assertEqual(self.assert_way(dance, at_once(dance, way)), way)

    def test_nothing_is_refused_beyond_the_bounds(self):
        row = (6, tuple(("tell", 4, n % 4, (("abcd", n + 1),)) for n in range(50)) + (END,))
        done = tuple(("tell", 4, n % 4, "abcd") for n in range(50)) + (("hear", 4, 3, "abcd"),)
        self.assertEqual(self.assert_way(row, done), ("abcd",) * 50)


if __name__ == "__main__":
    unittest.main()
