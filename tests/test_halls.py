import random
import unittest

from reelhall.errors import NoMove, NoPart, ReelError
from reelhall.halls import Hall
from reelhall.parts import part_of
from tests.examples import (END, FOUR, LATER_REST, ONE_PLACE, PASSED_ON, RESTS_AT_ONCE, ROUND, TOLD_AHEAD, TWO_ALONE,
                            TWO_PAIRS, WRITTEN_FAIR, again, all_of, danced, did, fair_dances, is_plain, mover, rows_of)


def tell(one, other, word):
    return ("tell", one, other, word)


def hear(one, other, word):
    return ("hear", one, other, word)


def every_move(dance):
    """Each move that could be written of the dance's own dancers and words, and of a word that stands nowhere in it."""
    words = {word for place in dance[1] if place != END for word, _ in place[3]} | {"no", "nil"}
    pairs = [(one, other) for one in range(dance[0]) for other in range(dance[0]) if one != other]
    return [(kind, one, other, word) for kind in ("tell", "hear") for one, other in pairs for word in sorted(words)]


def after(dance, *moves):
    return again(dance, moves)


class HallTest(unittest.TestCase):
    def assert_hall(self, hall, many, states, rows, moves, over=False):
        """rows holds the rows that are not empty."""
        for _ in range(2):
            told = all_of(hall, many)
            self.assertEqual(told[0], states)
            self.assertEqual({pair: row for pair, row in told[1].items() if row}, rows)
            self.assertEqual(told[2], moves)
            self.assertIs(told[4], over)
            self.assertTrue(is_plain(told[0]) and is_plain(tuple(told[1].values())) and is_plain(told[2:]))

    def assert_refused(self, hall, many, move):
        before = all_of(hall, many)
        with self.assertRaises(NoMove, msg=move) as taken:
            hall.do(move)
        self.assertIsInstance(taken.exception, ReelError)
        self.assertNotIsInstance(taken.exception, NoPart)
        self.assertEqual(all_of(hall, many), before)

    def test_at_the_beginning(self):
        self.assert_hall(Hall(PASSED_ON), 3, (0, 0, 0), {}, (tell(0, 1, "go"), tell(0, 1, "no")))
        self.assert_hall(Hall(TWO_ALONE), 2, (0, 0), {}, (tell(1, 0, "x"),))
        self.assert_hall(Hall(ONE_PLACE), 2, (0, 0), {}, (), over=True)
        for dance in fair_dances():
            hall = Hall(dance)
            self.assertEqual(hall.states(), (0,) * dance[0])
            self.assertEqual(set(rows_of(hall, dance[0]).values()), {()})
            self.assertEqual(hall.done(), ())

    def test_behind_tells_and_hears(self):
        hall = Hall(PASSED_ON)
        hall.do(tell(0, 1, "go"))
        self.assert_hall(hall, 3, (1, 0, 0), {(0, 1): ("go",)}, (hear(0, 1, "go"),))
        hall.do(hear(0, 1, "go"))
        self.assert_hall(hall, 3, (1, 1, 0), {}, (tell(1, 2, "a"), tell(1, 2, "b")))
        hall.do(tell(1, 2, "b"))
        self.assert_hall(hall, 3, (1, 3, 0), {(1, 2): ("b",)}, (hear(1, 2, "b"),))
        hall.do(hear(1, 2, "b"))
        self.assert_hall(hall, 3, (1, 3, 1), {}, (tell(2, 0, "d"),))
        hall.do(tell(2, 0, "d"))
        self.assert_hall(hall, 3, (1, 3, 0), {(2, 0): ("d",)}, (hear(2, 0, "d"),))
        hall.do(hear(2, 0, "d"))
        self.assert_hall(hall, 3, (0, 3, 0), {}, (tell(0, 1, "go"), tell(0, 1, "no")))
        hall.do(tell(0, 1, "no"))
        self.assert_hall(hall, 3, (2, 3, 0), {(0, 1): ("no",)}, (hear(0, 1, "no"),))
        hall.do(hear(0, 1, "no"))
        self.assert_hall(hall, 3, (2, 2, 0), {}, (tell(1, 2, "c"),))
        hall.do(tell(1, 2, "c"))
        self.assert_hall(hall, 3, (2, 4, 0), {(1, 2): ("c",)}, (hear(1, 2, "c"),))
        hall.do(hear(1, 2, "c"))
        self.assert_hall(hall, 3, (2, 4, 2), {}, (), over=True)

    def test_several_words_in_one_row(self):
        hall = Hall(TWO_ALONE)
        for k in range(1, 6):
            hall.do(tell(1, 0, "x"))
            self.assert_hall(hall, 2, (0, 0), {(1, 0): ("x",) * k}, (hear(1, 0, "x"), tell(1, 0, "x")))
        for k in range(4, 0, -1):
            hall.do(hear(1, 0, "x"))
            self.assertEqual(hall.row(1, 0), ("x",) * k)
            self.assertEqual(hall.row(0, 1), ())

    def test_several_words_in_several_rows(self):
        hall = after(TOLD_AHEAD, tell(0, 1, "b"), tell(0, 2, "c"), tell(0, 1, "b"), tell(0, 1, "a"), tell(0, 2, "d"),
                     tell(0, 1, "e"))
        rows = {(0, 1): ("b", "b", "a", "e"), (0, 2): ("c", "d")}
        self.assert_hall(hall, 3, (4, 0, 0), rows, (hear(0, 1, "b"), hear(0, 2, "c")))
        hall.do(hear(0, 2, "c"))
        hall.do(hear(0, 1, "b"))
        rows = {(0, 1): ("b", "a", "e"), (0, 2): ("d",)}
        self.assert_hall(hall, 3, (4, 1, 1), rows, (hear(0, 1, "b"), hear(0, 2, "d")))
        hall.do(hear(0, 1, "b"))
        hall.do(hear(0, 1, "a"))
        self.assert_hall(hall, 3, (4, 1, 1), {(0, 1): ("e",), (0, 2): ("d",)}, (hear(0, 1, "e"), hear(0, 2, "d")))

    def test_rows_from_two_dancers_are_apart(self):
        hall = after(TOLD_AHEAD, tell(0, 1, "a"), hear(0, 1, "a"), tell(0, 2, "d"), tell(0, 1, "e"), hear(0, 1, "e"),
                     tell(1, 2, "f"))
        self.assert_hall(hall, 3, (4, 3, 0), {(0, 2): ("d",), (1, 2): ("f",)}, (hear(0, 2, "d"),))
        hall.do(hear(0, 2, "d"))
        self.assert_hall(hall, 3, (4, 3, 2), {(1, 2): ("f",)}, (hear(1, 2, "f"),))

    def test_words_told_ahead_of_ones_hearing(self):
        # In across 1 hears from 0 and 2 by turns, and 2 doesn't wait for 0.
        dance = (2, (("tell", 0, 1, (("a", 1),)), ("tell", 1, 0, (("b", 0),))))
        across = (4, (("tell", 0, 1, (("a", 1),)), ("tell", 2, 1, (("b", 2), ("c", 2))), ("tell", 2, 3, (("d", 0),))))
        self.assert_hall(after(dance, tell(0, 1, "a")), 2, (1, 0), {(0, 1): ("a",)}, (hear(0, 1, "a"),))
        hall = after(across, tell(2, 1, "c"), tell(2, 3, "d"), tell(2, 1, "b"))
        self.assert_hall(hall, 4, (0, 0, 1, 0), {(2, 1): ("c", "b"), (2, 3): ("d",)},
                         (tell(0, 1, "a"), tell(2, 3, "d"), hear(2, 3, "d")))
        hall.do(tell(0, 1, "a"))
        hall.do(tell(0, 1, "a"))
        hall.do(hear(0, 1, "a"))
        self.assert_hall(hall, 4, (1, 1, 1, 0), {(0, 1): ("a",), (2, 1): ("c", "b"), (2, 3): ("d",)},
                         (tell(0, 1, "a"), hear(2, 1, "c"), tell(2, 3, "d"), hear(2, 3, "d")))

    def test_the_order_of_moves(self):
        hall = after(TWO_PAIRS, tell(0, 1, "m"), tell(2, 3, "b"), hear(2, 3, "b"))
        self.assertEqual(hall.moves(), (tell(0, 1, "l"), tell(0, 1, "m"), tell(0, 1, "r"), hear(0, 1, "m"),
                                        tell(3, 2, "x")))
        # The moves of who hears stand where it stands, not where the one stands who told.
        turned = (4, tuple(p if p == END else ("tell", 3 - p[1], 3 - p[2], p[3]) for p in TWO_PAIRS[1]))
        hall = after(turned, tell(3, 2, "m"), tell(1, 0, "b"))
        self.assertEqual(hall.moves(), (hear(1, 0, "b"), hear(3, 2, "m"), tell(3, 2, "l"), tell(3, 2, "m"),
                                        tell(3, 2, "r")))
        self.assertEqual(after(LATER_REST, tell(0, 1, "z"), tell(2, 3, "y")).moves(),
                         (tell(0, 1, "x"), tell(0, 1, "z"), hear(0, 1, "z"), hear(2, 3, "y")))

    def test_moves_stand_by_dancers_and_then_by_words(self):
        rng = random.Random(71)
        for dance in fair_dances():
            moves = danced(rng, dance, 30).moves()
            self.assertEqual(list(moves), sorted(moves, key=lambda move: (mover(move), move[3])))
            self.assertEqual(len(set(moves)), len(moves))

    def test_a_tell_that_cant_be_done(self):
        hall = Hall(PASSED_ON)
        for word in ("a", "g", "goo", "", "d", "GO"):
            self.assert_refused(hall, 3, tell(0, 1, word))
        for one, other in ((0, 2), (1, 0), (1, 2), (2, 0), (2, 1)):
            self.assert_refused(hall, 3, tell(one, other, "go"))
        for one, other, word in ((1, 2, "a"), (1, 2, "c"), (2, 0, "d")):
            self.assert_refused(hall, 3, tell(one, other, word))
        hall.do(tell(0, 1, "go"))
        for word in ("go", "no"):
            self.assert_refused(hall, 3, tell(0, 1, word))

    def test_a_hear_that_cant_be_done(self):
        hall = Hall(PASSED_ON)
        for word in ("go", "no", "a"):
            self.assert_refused(hall, 3, hear(0, 1, word))
        hall.do(tell(0, 1, "go"))
        for move in (hear(0, 1, "no"), hear(0, 1, "a"), hear(0, 2, "go"), hear(2, 1, "go"), hear(1, 0, "go"),
                     hear(1, 2, "a")):
            self.assert_refused(hall, 3, move)
        hall.do(hear(0, 1, "go"))
        self.assert_refused(hall, 3, hear(0, 1, "go"))

    def test_a_word_that_is_not_the_first_in_the_row(self):
        hall = after(TOLD_AHEAD, tell(0, 1, "b"), tell(0, 2, "c"), tell(0, 1, "b"), tell(0, 1, "a"), tell(0, 2, "d"))
        # The states of 1 and 2 have these words in their pairs, and they are in the row, but not the first.
        self.assert_refused(hall, 3, hear(0, 1, "a"))
        self.assert_refused(hall, 3, hear(0, 2, "d"))
        hall.do(hear(0, 1, "b"))
        hall.do(hear(0, 1, "b"))
        hall.do(hear(0, 1, "a"))
        self.assert_refused(hall, 3, hear(0, 1, "e"))

    def test_a_word_of_another_dancer_that_is_first_in_its_row(self):
        hall = after(TOLD_AHEAD, tell(0, 1, "a"), hear(0, 1, "a"), tell(0, 2, "d"), tell(0, 1, "e"), hear(0, 1, "e"),
                     tell(1, 2, "f"))
        self.assert_refused(hall, 3, hear(1, 2, "f"))
        self.assert_refused(hall, 3, hear(0, 2, "f"))

    def test_nothing_can_be_done_at_ends_and_rests(self):
        for dance, done in ((ONE_PLACE, ()), (LATER_REST, (tell(2, 3, "y"), hear(2, 3, "y")))):
            hall = again(dance, done)
            for move in every_move(dance):
                if move not in hall.moves():
                    self.assert_refused(hall, dance[0], move)

    def test_truths_are_no_dancers(self):
        hall = Hall(PASSED_ON)
        for move in (tell(False, 1, "go"), tell(0, True, "go"), tell(False, True, "go")):
            self.assert_refused(hall, 3, move)

    def test_just_the_moves_that_are_told_can_be_done(self):
        rng = random.Random(72)
        for dance in fair_dances():
            hall = danced(rng, dance, 25)
            for move in every_move(dance):
                if move not in hall.moves():
                    self.assert_refused(hall, dance[0], move)
                else:
                    self.assertIs(again(dance, hall.done()).do(move), None)

    def test_what_a_move_changes(self):
        rng = random.Random(73)
        for dance in fair_dances():
            hall = danced(rng, dance, 25)
            for move in hall.moves():
                other = again(dance, hall.done())
                other.do(move)
                who, pair = mover(move), move[1:3]
                states, rows = list(hall.states()), rows_of(hall, dance[0])
                states[who] = dict(part_of(dance, who)[states[who]][2])[move[3]]
                rows[pair] = rows[pair] + (move[3],) if move[0] == "tell" else rows[pair][1:]
                self.assertEqual(other.states(), tuple(states))
                self.assertEqual(rows_of(other, dance[0]), rows)
                self.assertEqual(other.done(), hall.done() + (move,))

    def test_do_tells_none(self):
        hall = Hall(PASSED_ON)
        self.assertIsNone(hall.do(tell(0, 1, "go")))
        self.assertIsNone(hall.do(hear(0, 1, "go")))

    def test_done_in_order(self):
        moves = (tell(2, 3, "b"), tell(0, 1, "m"), hear(2, 3, "b"), tell(0, 1, "r"), hear(0, 1, "m"), tell(3, 2, "x"),
                 hear(0, 1, "r"), hear(3, 2, "x"))
        hall = Hall(TWO_PAIRS)
        for k, move in enumerate(moves):
            self.assertEqual(hall.done(), moves[:k])
            hall.do(move)
            self.assertTrue(is_plain(hall.done()))
        self.assertEqual(hall.done(), moves)
        self.assertIs(hall.is_over(), True)

    def test_over_with_ends(self):
        self.assertIs(Hall(ONE_PLACE).is_over(), True)
        hall = Hall(TWO_PAIRS)
        for move in (tell(0, 1, "l"), hear(0, 1, "l"), tell(2, 3, "a"), hear(2, 3, "a"), tell(3, 2, "x"),
                     hear(3, 2, "x")):
            self.assertIs(hall.is_over(), False)
            hall.do(move)
        self.assertIs(hall.is_over(), True)

    def test_over_with_rests(self):
        # Who rests does so because others go round for ever: it is never over, with or without words on the way.
        rng = random.Random(74)
        for dance, resting in ((RESTS_AT_ONCE, {2}), (LATER_REST, {2, 3})):
            hall = Hall(dance)
            for _ in range(40):
                self.assertIs(hall.is_over(), False)
                hall.do(rng.choice(hall.moves()))
            while any(rows_of(hall, dance[0]).values()):
                hall.do([move for move in hall.moves() if move[0] == "hear"][0])
                self.assertIs(hall.is_over(), False)
            kinds = [part_of(dance, k)[state][0] for k, state in enumerate(hall.states())]
            self.assertEqual({k for k, kind in enumerate(kinds) if kind == "rests"}, resting)

    def test_not_over_with_words_on_the_way(self):
        # All are at their ends only when all was heard, so words on the way go with a state that hears.
        hall = after(PASSED_ON, tell(0, 1, "no"), hear(0, 1, "no"), tell(1, 2, "c"))
        self.assertEqual(hall.row(1, 2), ("c",))
        self.assertIs(hall.is_over(), False)
        hall.do(hear(1, 2, "c"))
        self.assertIs(hall.is_over(), True)

    def test_over_just_where_states_and_rows_say_so(self):
        rng = random.Random(75)
        seen = []
        for dance in fair_dances():
            for _ in range(5):
                hall = danced(rng, dance, 40)
                kinds = [part_of(dance, k)[state][0] for k, state in enumerate(hall.states())]
                over = set(kinds) <= {"end", "rests"} and set(rows_of(hall, dance[0]).values()) == {()}
                self.assertIs(hall.is_over(), over)
                seen.append(over)
        self.assertGreater(seen.count(True), 20)
        self.assertGreater(seen.count(False), 20)

    def test_a_dance_without_parts(self):
        for dance in (ROUND, FOUR, (4, ROUND[1])):
            with self.assertRaises(NoPart):
                Hall(dance)

    def test_two_halls_are_apart(self):
        for dance in WRITTEN_FAIR:
            one, other = Hall(dance), Hall(dance)
            before = all_of(other, dance[0])
            for _ in range(6):
                if one.moves():
                    one.do(one.moves()[0])
            self.assertEqual(all_of(other, dance[0]), before)
            self.assertEqual(all_of(Hall(dance), dance[0]), before)

    def test_what_was_told_stays_as_it_was(self):
        hall = after(TOLD_AHEAD, tell(0, 1, "a"))
        told = all_of(hall, 3)
        kept = repr(told)
        hall.do(tell(0, 2, "c"))
        hall.do(hear(0, 1, "a"))
        self.assertEqual(repr(told), kept)

    def test_the_same_moves_come_to_the_same(self):
        rng = random.Random(76)
        for dance in fair_dances():
            hall = danced(rng, dance, 25)
            self.assertEqual(all_of(again(dance, hall.done()), dance[0]), all_of(hall, dance[0]))
            self.assertEqual(all_of(hall, dance[0]), all_of(hall, dance[0]))

    def test_what_each_did_leads_to_its_state(self):
        rng = random.Random(77)
        for dance in fair_dances():
            hall = danced(rng, dance, 40)
            for dancer, state in enumerate(hall.states()):
                number = 0
                for move in did(hall.done(), dancer):
                    number = dict(part_of(dance, dancer)[number][2])[move[3]]
                self.assertEqual(state, number)

    def test_nothing_is_refused_beyond_the_bounds(self):
        row = tuple(("tell", 4, n % 4, (("abcd", n + 1),)) for n in range(50)) + (END,)
        hall = Hall((6, row))
        for n in range(50):
            hall.do(tell(4, n % 4, "abcd"))
        self.assertEqual(hall.states(), (0, 0, 0, 0, 50, 0))
        self.assertEqual(hall.row(4, 0), ("abcd",) * 13)


if __name__ == "__main__":
    unittest.main()
