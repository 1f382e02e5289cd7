import unittest

from reelhall.errors import NoMove, NoPart
from reelhall.parts import is_fair, part_of
from tests.examples import (END, FORTY, FOUR, LATER_REST, ONE_PLACE, PASSED_ON, RESTS_AT_ONCE, ROUND, TOLD_AHEAD,
                            TWO_ALONE, TWO_PAIRS, WRITTEN, WRITTEN_FAIR, come_to, drawn_dances, fair_dances, is_plain)

THE_END = ("end",)
RESTS = ("rests",)


def tells(other, *pairs):
    return ("tells", other, pairs)


def hears(one, *pairs):
    return ("hears", one, pairs)


def split(left, right):
    """0 tells 1 which of two places it goes on at; 2 can't know which. Place 3 is an end, place 4 goes round."""
    return (3, (("tell", 0, 1, (("l", 1), ("r", 2))), left, right, END, ("tell", 0, 1, (("o", 4),))))


# For each cause a dance in which dancer 2 has no part because of it.
PARTLESS = {
    "an end beside a tell": split(END, ("tell", 2, 0, (("c", 3),))),
    "a tell beside an end": split(("tell", 2, 1, (("c", 3),)), END),
    "an end beside a hear": split(("tell", 0, 2, (("c", 3),)), END),
    "telling and hearing": split(("tell", 2, 0, (("c", 3),)), ("tell", 0, 2, (("c", 3),))),
    "hearing and telling": split(("tell", 1, 2, (("c", 3),)), ("tell", 2, 1, (("c", 3),))),
    "telling unlike others": split(("tell", 2, 0, (("c", 3),)), ("tell", 2, 1, (("c", 3),))),
    "hearing from unlike ones": split(("tell", 0, 2, (("c", 3),)), ("tell", 1, 2, (("c", 3),))),
    "other words at tells": split(("tell", 2, 0, (("c", 3),)), ("tell", 2, 0, (("d", 3),))),
    "more words at one tell": split(("tell", 2, 0, (("c", 3), ("d", 3))), ("tell", 2, 0, (("c", 3),))),
    "fewer words at one tell": split(("tell", 2, 1, (("c", 3),)), ("tell", 2, 1, (("b", 3), ("c", 3)))),
    "no hear can be come to": split(("tell", 0, 2, (("c", 3),)), ("tell", 1, 0, (("c", 4),))),
    "no tell can be come to": split(("tell", 2, 0, (("c", 3),)), ("tell", 1, 0, (("c", 2),))),
    "no end can be come to": split(END, ("tell", 1, 0, (("c", 4),))),
    "only from the second place on": split(("tell", 1, 0, (("a", 4), ("b", 3))), END),
}


def behind_a_word(dance):
    """The dance, come to only behind a word that 2 tells 0, so that the first states of all have nothing wrong."""
    moved = tuple(p if p == END else p[:3] + (tuple((w, to + 1) for w, to in p[3]),) for p in dance[1])
    return (dance[0], (("tell", 2, 0, (("s", 1),)),) + moved)


def closed(dance, dancer, some):
    while True:
        more = some | {to for p in some if dance[1][p] != END and dancer not in dance[1][p][1:3]
                       for _, to in dance[1][p][3]}
        if more == some:
            return some
        some = more


def plain_state(dance, dancer, some):
    """The state of some places before its pairs are numbered, or None; told by the document's words anew."""
    turns = [dance[1][p] for p in some if dance[1][p] == END or dancer in dance[1][p][1:3]]
    if not turns:
        return ("rests", None, {})
    for p in some:
        if not [q for q in closed(dance, dancer, frozenset([p]))
                if dance[1][q] == END or dancer in dance[1][q][1:3]]:
            return None
    if END in turns:
        return ("end", None, {}) if set(turns) == {END} else None
    pairs = {word: closed(dance, dancer, frozenset(to for t in turns for w, to in t[3] if w == word))
             for t in turns for word, _ in t[3]}
    if {t[1] for t in turns} == {dancer}:
        alike = len({(t[2], tuple(w for w, _ in t[3])) for t in turns}) == 1
        return ("tells", turns[0][2], pairs) if alike else None
    alike = len({t[1:3] for t in turns}) == 1
    return ("hears", turns[0][1], pairs) if alike else None


def plain_part(dance, dancer):
    order = [closed(dance, dancer, frozenset([0]))]
    part = []
    for some in order:
        state = plain_state(dance, dancer, some)
        if state is None:
            return None
        order.extend(to for _, to in sorted(state[2].items(), key=lambda pair: pair[0])
                     if to not in order)
        # Two words may lead to one new tuple of places: it counts once.
        order[:] = dict.fromkeys(order)
        pairs = tuple((word, order.index(state[2][word])) for word in sorted(state[2]))
        part.append((state[0],) if state[1] is None else (state[0], state[1], pairs))
    return tuple(part)


def part_or_none(dance, dancer):
    try:
        return part_of(dance, dancer)
    except NoPart:
        return None


def runs_of_part(part, longest):
    """All runs of what the part tells and hears, up to some length."""
    found, edge = {()}, {((), 0)}
    for _ in range(longest):
        edge = {(run + ((part[k][0], part[k][1], word),), to)
                for run, k in edge if len(part[k]) == 3 for word, to in part[k][2]}
        found |= {run for run, _ in edge}
    return found


def runs_of_dance(dance, dancer, longest):
    """All that the dancer does on ways through the dance, up to some length."""
    seen, waiting = {((), 0)}, [((), 0)]
    while waiting:
        run, number = waiting.pop()
        if dance[1][number] == END:
            continue
        _, one, other, choices = dance[1][number]
        for word, to in choices:
            step = (("tells", other, word),) if one == dancer else (("hears", one, word),) if other == dancer else ()
            after = (run + step, to)
            if len(after[0]) <= longest and after not in seen:
                seen.add(after)
                waiting.append(after)
    return {run for run, _ in seen}


class PartOfTest(unittest.TestCase):
    def assert_parts(self, dance, *parts):
        self.assertEqual(len(parts), dance[0])
        for dancer, part in enumerate(parts):
            told = part_of(dance, dancer)
            self.assertEqual(told, part, (dance, dancer))
            self.assertTrue(is_plain(told))
            self.assertEqual(part_of(dance, dancer), told)
        self.assertIs(is_fair(dance), True)

    def assert_no_part(self, dance, dancer):
        with self.assertRaises(NoPart, msg=(dance, dancer)) as taken:
            part_of(dance, dancer)
        self.assertNotIsInstance(taken.exception, NoMove)
        self.assertIs(is_fair(dance), False)

    def test_two_dancers(self):
        self.assert_parts(ONE_PLACE, (THE_END,), (THE_END,))
        self.assert_parts(TWO_ALONE, (hears(1, ("x", 0)),), (tells(0, ("x", 0)),))
        asked = (2, (("tell", 0, 1, (("go", 1), ("no", 2))), ("tell", 1, 0, (("a", 0), ("b", 2))), END))
        self.assert_parts(asked,
                          (tells(1, ("go", 1), ("no", 2)), hears(1, ("a", 0), ("b", 2)), THE_END),
                          (hears(0, ("go", 1), ("no", 2)), tells(0, ("a", 0), ("b", 2)), THE_END))
        self.assert_parts(FORTY,
                          tuple(tells(1, ("w", n + 1)) for n in range(39)) + (THE_END,),
                          tuple(hears(0, ("w", n + 1)) for n in range(39)) + (THE_END,))

    def test_three_dancers(self):
        # Of 2 the first state belongs to places 0, 1 and 2, and at its turns 1 and 2 it hears unlike words from 1. Of 1
        # states 1 and 2 are come to from states 0 and 3, and state 3 by both words of state 1.
        self.assert_parts(PASSED_ON,
                          (tells(1, ("go", 1), ("no", 2)), hears(2, ("d", 0)), THE_END),
                          (hears(0, ("go", 1), ("no", 2)), tells(2, ("a", 3), ("b", 3)), tells(2, ("c", 4)),
                           hears(0, ("go", 1), ("no", 2)), THE_END),
                          (hears(1, ("a", 1), ("b", 1), ("c", 2)), tells(0, ("d", 0)), THE_END))
        self.assert_parts(TOLD_AHEAD,
                          (tells(1, ("a", 1), ("b", 1)), tells(2, ("c", 2), ("d", 3)), tells(1, ("b", 0)),
                           tells(1, ("e", 4)), THE_END),
                          (hears(0, ("a", 1), ("b", 1)), hears(0, ("b", 0), ("e", 2)), tells(2, ("f", 3)), THE_END),
                          (hears(0, ("c", 1), ("d", 2)), hears(0, ("c", 1), ("d", 2)), hears(1, ("f", 3)), THE_END))

    def test_four_dancers(self):
        # Each word of 2 leads to both of the places 3 and 4, and so to one state.
        self.assert_parts(TWO_PAIRS,
                          (tells(1, ("l", 1), ("m", 0), ("r", 2)), THE_END, THE_END),
                          (hears(0, ("l", 1), ("m", 0), ("r", 2)), THE_END, THE_END),
                          (tells(3, ("a", 1), ("b", 1)), hears(3, ("x", 2)), THE_END),
                          (hears(2, ("a", 1), ("b", 1)), tells(2, ("x", 2)), THE_END))

    def test_dancers_that_rest(self):
        self.assert_parts(RESTS_AT_ONCE, (tells(1, ("x", 0)),), (hears(0, ("x", 0)),), (RESTS,))
        self.assert_parts(LATER_REST,
                          (tells(1, ("x", 1), ("z", 1)), tells(1, ("x", 1), ("z", 1))),
                          (hears(0, ("x", 1), ("z", 1)), hears(0, ("x", 1), ("z", 1))),
                          (tells(3, ("y", 1)), RESTS),
                          (hears(2, ("y", 1)), RESTS))
        # Told "e" 2 rests while the others go round; told "d" it hears of the end.
        either = (3, (("tell", 0, 2, (("d", 1), ("e", 3))), ("tell", 0, 1, (("d", 2),)), END,
                      ("tell", 0, 1, (("e", 3),))))
        self.assert_parts(either,
                          (tells(2, ("d", 1), ("e", 2)), tells(1, ("d", 3)), tells(1, ("e", 2)), THE_END),
                          (hears(0, ("d", 1), ("e", 2)), THE_END, hears(0, ("e", 2))),
                          (hears(0, ("d", 1), ("e", 2)), THE_END, RESTS))

    def test_states_are_numbered_state_by_state(self):
        dance = (2, (
            ("tell", 0, 1, (("a", 4), ("b", 2), ("c", 4))),
            END,
            ("tell", 0, 1, (("a", 3), ("z", 0))),
            ("tell", 1, 0, (("q", 3),)),
            ("tell", 1, 0, (("m", 1), ("n", 2))),
        ))
        self.assert_parts(dance,
                          (tells(1, ("a", 1), ("b", 2), ("c", 1)), hears(1, ("m", 3), ("n", 2)),
                           tells(1, ("a", 4), ("z", 0)), THE_END, hears(1, ("q", 4))),
                          (hears(0, ("a", 1), ("b", 2), ("c", 1)), tells(0, ("m", 3), ("n", 2)),
                           hears(0, ("a", 4), ("z", 0)), THE_END, tells(0, ("q", 4))))

    def test_two_turns_with_unlike_words_from_the_same_one(self):
        dance = split(("tell", 1, 2, (("b", 3), ("y", 3))), ("tell", 1, 2, (("a", 3), ("c", 3), ("z", 3))))
        self.assertEqual(part_of(dance, 2),
                         (hears(1, ("a", 1), ("b", 1), ("c", 1), ("y", 1), ("z", 1)), THE_END))
        # A word that stands at both leads to what comes behind either of them.
        dance = split(("tell", 1, 2, (("a", 3), ("b", 0))), ("tell", 1, 2, (("b", 0), ("c", 4))))
        self.assertEqual(part_of(dance, 2), (hears(1, ("a", 1), ("b", 0), ("c", 2)), THE_END, RESTS))

    def test_words_rise_as_texts(self):
        dance = split(("tell", 1, 2, (("ab", 3), ("z", 3))), ("tell", 1, 2, (("a", 3), ("abc", 3), ("b", 3))))
        self.assertEqual([word for word, _ in part_of(dance, 2)[0][2]], ["a", "ab", "abc", "b", "z"])

    def test_one_tuple_of_places_has_one_state(self):
        dance = split(("tell", 2, 0, (("c", 3), ("d", 1))), ("tell", 2, 0, (("c", 3), ("d", 2))))
        self.assert_parts(dance,
                          (tells(1, ("l", 1), ("r", 2)), hears(2, ("c", 3), ("d", 1)), hears(2, ("c", 3), ("d", 2)),
                           THE_END),
                          (hears(0, ("l", 1), ("r", 2)), THE_END, THE_END),
                          (tells(0, ("c", 1), ("d", 2)), THE_END, tells(0, ("c", 1), ("d", 2))))

    def test_each_cause_of_having_no_part(self):
        for cause, dance in PARTLESS.items():
            with self.subTest(cause):
                self.assert_no_part(dance, 2)
                self.assertTrue(is_plain(part_of(dance, 0)) and is_plain(part_of(dance, 1)))

    def test_each_cause_in_a_later_state(self):
        for cause, dance in PARTLESS.items():
            with self.subTest(cause):
                self.assert_no_part(behind_a_word(dance), 2)

    def test_written_dances_without_parts(self):
        self.assert_no_part(ROUND, 0)
        self.assert_no_part(ROUND, 2)
        self.assert_no_part(FOUR, 0)
        self.assert_no_part(FOUR, 2)
        self.assert_no_part(FOUR, 3)
        self.assertEqual(part_of(FOUR, 1),
                         (hears(0, ("a", 1), ("b", 2)), THE_END, tells(2, ("d", 0), ("e", 3)), THE_END))
        # A dancer that neither tells nor hears must still be able to come to the end.
        self.assert_no_part((4, PARTLESS["no end can be come to"][1]), 3)

    def test_places_that_are_not_come_to_do_no_harm(self):
        for dance in PARTLESS.values():
            aside = (3, (("tell", 0, 1, (("y", 5),)),) + dance[1][1:] + (("tell", 1, 2, (("y", 3),)),))
            self.assert_parts(aside,
                              (tells(1, ("y", 1)), THE_END),
                              (hears(0, ("y", 1)), tells(2, ("y", 2)), THE_END),
                              (hears(1, ("y", 1)), THE_END))

    def test_drawn_dances(self):
        for dance in drawn_dances(61, 400) + list(fair_dances()) + list(WRITTEN):
            for dancer in range(dance[0]):
                expected = plain_part(dance, dancer)
                if expected is None:
                    self.assert_no_part(dance, dancer)
                else:
                    self.assertEqual(part_of(dance, dancer), expected, (dance, dancer))

    def test_a_part_runs_as_the_dance_does(self):
        for dance in fair_dances():
            for dancer in range(dance[0]):
                self.assertEqual(runs_of_part(part_of(dance, dancer), 4), runs_of_dance(dance, dancer, 4), dance)

    def test_nothing_is_refused_beyond_the_bounds(self):
        row = tuple(("tell", 4, n % 4, (("abcd", n + 1),)) for n in range(50)) + (END,)
        self.assertEqual(part_of((6, row), 4),
                         tuple(tells(n % 4, ("abcd", n + 1)) for n in range(50)) + (THE_END,))
        self.assertEqual(part_of((6, row), 5), (THE_END,))
        self.assertIs(is_fair((6, row)), True)
        wide = (2, (("tell", 0, 1, tuple((word, 1) for word in "abcdef")), END))
        self.assert_parts(wide, (tells(1, *[(word, 1) for word in "abcdef"]), THE_END),
                          (hears(0, *[(word, 1) for word in "abcdef"]), THE_END))


class IsFairTest(unittest.TestCase):
    def test_all_have_a_part(self):
        for dance in WRITTEN_FAIR:
            self.assertIs(is_fair(dance), True)
            self.assertIs(is_fair(dance), True)

    def test_one_has_none(self):
        for dance in list(PARTLESS.values()) + [ROUND, FOUR]:
            self.assertIs(is_fair(dance), False)
            self.assertIs(is_fair(dance), False)

    def test_whichever_dancer_has_none(self):
        for dance in PARTLESS.values():
            for dancers in ((0, 1, 2), (1, 2, 0), (2, 0, 1)):
                turned = tuple(p if p == END else ("tell", dancers[p[1]], dancers[p[2]], p[3]) for p in dance[1])
                self.assertIs(is_fair((3, turned)), False)

    def test_drawn_dances(self):
        answers = []
        for dance in drawn_dances(62, 300):
            expected = all(part_or_none(dance, dancer) is not None for dancer in range(dance[0]))
            self.assertIs(is_fair(dance), expected)
            answers.append(expected)
        self.assertGreater(answers.count(True), 30)
        self.assertGreater(answers.count(False), 30)

    def test_the_fair_dances_of_the_tests_are_not_all_plain(self):
        dances = fair_dances()
        shared = [d for d in dances if any(len(part_of(d, k)) < len(come_to(d)) for k in range(d[0]))]
        kinds = {state[0] for d in dances for k in range(d[0]) for state in part_of(d, k)}
        self.assertGreater(len(shared), 50)
        self.assertGreater(len([d for d in dances if d[0] > 2 and len(come_to(d)) > 8]), 10)
        self.assertEqual(kinds, {"tells", "hears", "end", "rests"})


if __name__ == "__main__":
    unittest.main()
