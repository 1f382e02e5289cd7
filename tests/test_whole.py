"""What is promised over the whole program: each promise over many fair dances and many drawn runs of moves."""

import random
import unittest

from reelhall.errors import NoMove, NoPart, ReelError
from reelhall.halls import Hall
from reelhall.knowing import apart
from reelhall.parts import is_fair, part_of
from reelhall.things import goes, is_dance, renamed
from reelhall.ways import way_of
from tests.examples import (END, all_of, again, danced, did, does, drawn_dances, drawn_orders, drawn_way, fair_dances,
                            is_plain, mover, rows_of)

RUNS = 4


def renamed_move(move, dancers):
    return (move[0], dancers[move[1]], dancers[move[2]], move[3])


def renamed_part(part, dancers):
    return tuple((state[0], dancers[state[1]], state[2]) if len(state) == 3 else state for state in part)


def told_and_heard(done, one, other):
    return tuple(tuple(move[3] for move in done if move[:3] == (kind, one, other)) for kind in ("tell", "hear"))


class WholeTest(unittest.TestCase):
    def runs(self, seed, most=40):
        rng = random.Random(seed)
        for dance in fair_dances():
            for _ in range(RUNS):
                yield dance, danced(rng, dance, most)

    def test_a_something_can_be_done_till_it_is_over(self):
        rng = random.Random(91)
        overs = 0
        for dance, hall in self.runs(92):
            for _ in range(15):
                kinds = [part_of(dance, k)[state][0] for k, state in enumerate(hall.states())]
                waits = not set(kinds) <= {"end", "rests"} or any(rows_of(hall, dance[0]).values())
                self.assertIs(hall.is_over(), not waits)
                self.assertEqual(len(hall.moves()) > 0, waits, (dance, hall.done()))
                if not waits:
                    overs += 1
                    break
                hall.do(rng.choice(hall.moves()))
        self.assertGreater(overs, 50)

    def test_a_what_is_told_is_heard_at_last(self):
        # Told no more than needed, a hall comes to where no word is on the way: no dancer waits in vain.
        for dance, hall in self.runs(93):
            for _ in range(2000):
                if not any(rows_of(hall, dance[0]).values()):
                    break
                hears = [move for move in hall.moves() if move[0] == "hear"]
                hall.do(hears[0] if hears else self.next_on(dance, hall))
            self.assertFalse(any(rows_of(hall, dance[0]).values()), dance)

    def next_on(self, dance, hall):
        """The move by which the first word on the way of all that is not told yet is told."""
        way = way_of(dance, hall.done())
        for k in range(len(way) + 1):
            for dancer in range(dance[0]):
                mine = does(dance, way[:k], dancer)
                count = len(did(hall.done(), dancer))
                if len(mine) > count and mine[count][0] == "tell":
                    return mine[count]
        raise AssertionError((dance, hall.done()))

    def test_b_what_is_done_is_the_beginning_of_one_way(self):
        for dance, hall in self.runs(94):
            way = way_of(dance, hall.done())
            self.assertIsNotNone(goes(dance, way))
            for dancer in range(dance[0]):
                mine = did(hall.done(), dancer)
                self.assertEqual(does(dance, way, dancer)[:len(mine)], mine, (dance, hall.done()))

    def test_b_what_was_danced_to_the_end_is_a_way_to_an_end(self):
        rng = random.Random(95)
        seen = 0
        for dance, hall in self.runs(96, 400):
            while not hall.is_over() and len(hall.done()) < 400:
                hall.do(rng.choice(hall.moves()))
            if hall.is_over():
                way = way_of(dance, hall.done())
                self.assertEqual(dance[1][goes(dance, way)], END)
                for dancer in range(dance[0]):
                    self.assertEqual(does(dance, way, dancer), did(hall.done(), dancer))
                seen += 1
        self.assertGreater(seen, 50)

    def test_c_each_way_can_be_danced(self):
        rng = random.Random(97)
        for dance in fair_dances():
            for most in (5, 15, 40, 40):
                way = drawn_way(rng, dance, most)
                hall = Hall(dance)
                left = [does(dance, way, dancer) for dancer in range(dance[0])]
                # In any order that the rows leave: who has something left on the way, and can do it, does it.
                while any(left):
                    ready = [mine[0] for mine in left if mine and mine[0] in hall.moves()]
                    self.assertTrue(ready, (dance, way, hall.done()))
                    move = rng.choice(ready)
                    hall.do(move)
                    left[mover(move)].pop(0)
                self.assertEqual(way_of(dance, hall.done()), way)
                self.assertIs(hall.is_over(), dance[1][goes(dance, way)] == END)

    def test_d_two_dancers_in_either_order(self):
        seen = 0
        for dance, hall in self.runs(98, 25):
            moves = hall.moves()
            for first in moves:
                for second in moves:
                    if mover(first) < mover(second):
                        one = again(dance, hall.done() + (first, second))
                        other = again(dance, hall.done() + (second, first))
                        self.assertEqual(one.states(), other.states())
                        self.assertEqual(rows_of(one, dance[0]), rows_of(other, dance[0]))
                        self.assertEqual(one.moves(), other.moves())
                        self.assertIs(one.is_over(), other.is_over())
                        seen += 1
        self.assertGreater(seen, 500)

    def test_e_each_hears_what_was_told_to_it_in_order(self):
        for dance, hall in self.runs(99, 60):
            for pair, row in rows_of(hall, dance[0]).items():
                told, heard = told_and_heard(hall.done(), *pair)
                self.assertEqual(told, heard + row)

    def test_f_other_numbers_change_no_part(self):
        rng = random.Random(100)
        for dance in fair_dances():
            dancers, numbers = drawn_orders(rng, dance)
            other = renamed(dance, dancers, numbers)
            for dancer in range(dance[0]):
                self.assertEqual(part_of(other, dancers[dancer]), renamed_part(part_of(dance, dancer), dancers))

    def test_f_other_numbers_change_not_whether_there_is_a_part(self):
        rng = random.Random(101)
        for dance in drawn_dances(102, 200):
            dancers, numbers = drawn_orders(rng, dance)
            other = renamed(dance, dancers, numbers)
            self.assertIs(is_fair(other), is_fair(dance))
            for dancer in range(dance[0]):
                try:
                    part = renamed_part(part_of(dance, dancer), dancers)
                except NoPart:
                    self.assertRaises(NoPart, part_of, other, dancers[dancer])
                else:
                    self.assertEqual(part_of(other, dancers[dancer]), part)

    def test_f_other_numbers_change_nothing_in_a_hall(self):
        rng = random.Random(103)
        for dance, hall in self.runs(104):
            dancers, numbers = drawn_orders(rng, dance)
            renamed_dance = renamed(dance, dancers, numbers)
            other = again(renamed_dance, [renamed_move(move, dancers) for move in hall.done()])
            for dancer, state in enumerate(hall.states()):
                self.assertEqual(other.states()[dancers[dancer]], state)
            for (one, two), row in rows_of(hall, dance[0]).items():
                self.assertEqual(other.row(dancers[one], dancers[two]), row)
            moves = sorted((renamed_move(move, dancers) for move in hall.moves()),
                           key=lambda move: (mover(move), move[3]))
            self.assertEqual(other.moves(), tuple(moves))
            self.assertIs(other.is_over(), hall.is_over())
            self.assertEqual(way_of(renamed_dance, other.done()), way_of(dance, hall.done()))

    def test_all_that_is_told_is_plain(self):
        for dance, hall in self.runs(105):
            states, rows, moves, done, over = all_of(hall, dance[0])
            parts = tuple(part_of(dance, dancer) for dancer in range(dance[0]))
            told = (states, tuple(rows.values()), moves, done, over, parts, way_of(dance, done))
            self.assertTrue(is_plain(told))
            self.assertIs(type(over), bool)
            self.assertIs(type(is_fair(dance)), bool)
            self.assertFalse([state for state in states if type(state) is bool])

    def test_asked_again_the_same_is_told(self):
        for dance, hall in self.runs(106):
            copy = eval(repr(dance))
            self.assertEqual(all_of(hall, dance[0]), all_of(hall, dance[0]))
            self.assertEqual(way_of(dance, hall.done()), way_of(copy, hall.done()))
            for dancer in range(dance[0]):
                self.assertEqual(part_of(dance, dancer), part_of(copy, dancer))
            self.assertEqual(dance, copy)

    def test_each_refusal_is_a_reel_error(self):
        partless = (3, (("tell", 0, 1, (("a", 1), ("b", 2))), END, ("tell", 2, 0, (("c", 1),))))
        self.assertIs(is_dance(partless), True)
        self.assertEqual(apart(partless, 2, (0,)), (0, 1, 2))
        for refused in (lambda: part_of(partless, 2), lambda: Hall(partless)):
            with self.assertRaises(ReelError) as taken:
                refused()
            self.assertIs(type(taken.exception), NoPart)
        with self.assertRaises(ReelError) as taken:
            Hall((2, (END,))).do(("tell", 0, 1, "a"))
        self.assertIs(type(taken.exception), NoMove)


if __name__ == "__main__":
    unittest.main()
