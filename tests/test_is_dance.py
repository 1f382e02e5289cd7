import copy
import unittest

from reelhall.things import is_dance
from tests.examples import END, FORTY, FOUR, ONE_PLACE, ROUND, WRITTEN, drawn_dances

# None of these can stand for any part of a dance, at whatever depth.
NOWHERE = (None, True, False, -1, 99, 10 ** 30, "", "A", "abcd", "a b", "~", (), [], ((),), [[]])


def tell(one=0, other=1, choices=(("a", 0),)):
    return ("tell", one, other, choices)


def with_place(place, many=2):
    return (many, (place, END))


def with_choices(*choices):
    return with_place(tell(choices=tuple(choices)))


def with_word(word):
    return with_choices((word, 1))


def paths(thing, path=()):
    yield path
    if isinstance(thing, tuple):
        for k, part in enumerate(thing):
            yield from paths(part, path + (k,))


def part_at(thing, path):
    for k in path:
        thing = thing[k]
    return thing


def replaced(thing, path, part):
    if not path:
        return part
    k = path[0]
    return thing[:k] + (replaced(thing[k], path[1:], part),) + thing[k + 1:]


def nested(make, depth, core):
    for _ in range(depth):
        core = make((core,))
    return core


class IsDanceTest(unittest.TestCase):
    def assert_dance(self, thing):
        self.assertIs(is_dance(thing), True, thing)

    def assert_none(self, thing):
        self.assertIs(is_dance(thing), False, thing)

    def test_dances(self):
        for dance in WRITTEN:
            self.assert_dance(dance)

    def test_drawn_dances(self):
        for dance in drawn_dances(11, 100):
            self.assert_dance(dance)

    def test_things_of_other_kinds(self):
        things = (0, 1, 2, -3, 10 ** 40, True, False, None, "", "ab", "dance", (), [], (2,), (2, 2), (2, None),
                  (2, "end"), (2, ("end",)), ("end",), ["end"], ((END,), 2), (2, (END,), 0), ("2", (END,)),
                  (None, (END,)), ((2,), (END,)), END + END, [2, [["end"]]])
        for thing in things:
            self.assert_none(thing)

    def test_deep_things(self):
        for make in (list, tuple):
            for core in (None, 0, "end", END, ROUND, ONE_PLACE):
                for depth in (1, 2, 5, 30, 35):
                    deep = nested(make, depth, core)
                    self.assert_none(deep)
                    self.assert_none((deep, (END,)))
                    self.assert_none(with_place(tell(one=deep)))
                    self.assert_none(with_word(deep))
                    self.assert_none(with_choices(("a", deep)))

    def test_how_many_dancers(self):
        for many in (2, 3, 4):
            self.assert_dance((many, (END,)))
            self.assert_dance(with_place(tell(), many))
        for many in (-2, -1, 0, 1, 5, 6, 100):
            self.assert_none((many, (END,)))
        for many in (1, 5):
            self.assert_none(with_place(tell(), many))

    def test_how_many_places(self):
        for count in (1, 2, 39, 40):
            self.assert_dance((2, (END,) * count))
        for count in (0, 41, 42, 200):
            self.assert_none((2, (END,) * count))
        self.assert_dance(FORTY)
        self.assert_none((2, FORTY[1] + (END,)))

    def test_truths_are_no_whole_numbers(self):
        for dance in WRITTEN:
            for path in paths(dance):
                part = part_at(dance, path)
                if part in (0, 1):
                    self.assert_none(replaced(dance, path, bool(part)))
        self.assert_none((True, (END,)))

    def test_lists_stand_nowhere(self):
        for dance in WRITTEN:
            for path in paths(dance):
                part = part_at(dance, path)
                if isinstance(part, tuple):
                    self.assert_none(replaced(dance, path, list(part)))

    def test_no_part_may_be_of_another_kind(self):
        for dance in (ONE_PLACE, ROUND, FOUR):
            for path in paths(dance):
                for odd in NOWHERE:
                    self.assert_none(replaced(dance, path, odd))

    def test_no_tuple_may_be_longer_or_shorter(self):
        # A place less or more, or a choice less, may leave a dance; all else here may not.
        for path in ((), (1, 0), (1, 1), (1, 2), (1, 0, 3, 0), (1, 1, 3, 1)):
            part = part_at(ROUND, path)
            for other in (part[:-1], part[1:], part + (0,), part + part[-1:], part + (None,), (0,) + part):
                self.assert_none(replaced(ROUND, path, other))

    def test_two_unlike_dancers_that_are_there(self):
        for many in (2, 3, 4):
            for one in range(-1, many + 2):
                for other in range(-1, many + 2):
                    fits = 0 <= one < many and 0 <= other < many and one != other
                    self.assertIs(is_dance(with_place(tell(one, other), many)), fits)

    def test_next_places_that_are_there(self):
        for number in (0, 1):
            self.assert_dance(with_choices(("a", number)))
        for number in (-2, -1, 2, 3, 40):
            self.assert_none(with_choices(("a", number)))
        self.assert_none(replaced(FORTY, (1, 0, 3, 0, 1), 40))

    def test_words(self):
        for word in ("a", "z", "m", "az", "zz", "abc", "zzz", "end"):
            self.assert_dance(with_word(word))
        for word in ("", "abcd", "tell", "A", "Z", "aB", "Abc", "a1", "1", "`", "{", "a{", "`a", " ", "a ", " a",
                     "a b", "-", "a-c", "_", "~", "abc ", 0, 1, None, True, ("a",), ["a"]):
            self.assert_none(with_word(word))

    def test_how_many_choices(self):
        four = (("a", 0), ("b", 1), ("c", 0), ("d", 1))
        self.assert_none(with_choices())
        for count in (1, 2, 3):
            self.assert_dance(with_choices(*four[:count]))
        self.assert_none(with_choices(*four))

    def test_choices_rise_and_none_is_there_twice(self):
        for words in (("a", "b"), ("a", "aa"), ("ab", "b"), ("a", "ab", "b"), ("az", "b", "ba"), ("y", "z", "zzz")):
            self.assert_dance(with_choices(*[(word, 0) for word in words]))
        for words in (("b", "a"), ("aa", "a"), ("b", "ab"), ("a", "a"), ("a", "a", "b"), ("a", "b", "b"),
                      ("a", "c", "b"), ("b", "a", "c"), ("a", "b", "a"), ("c", "b", "a")):
            self.assert_none(with_choices(*[(word, 0) for word in words]))
            self.assert_none(with_choices(*[(word, k % 2) for k, word in enumerate(words)]))

    def test_choices_of_other_lengths_and_kinds(self):
        for choice in (("a",), ("a", 0, 0), (0, "a"), ("a", "b"), ("a", None), ("a", (0,)), "a", "ab", 0, None, (),
                       ["a", 0], (("a", 0),)):
            self.assert_none(with_choices(choice))
            self.assert_none(with_choices(("a", 0), choice))
        for choices in (0, 1, None, True, "a", "abc", [("a", 0)], [], ("a", 0)):
            self.assert_none(with_place(tell(choices=choices)))

    def test_places_of_other_lengths_and_kinds(self):
        for place in ((), ("tell",), ("tell", 0), ("tell", 0, 1), ("tell", 0, 1, (("a", 0),), 0), ("end", 0),
                      ("end", ()), ("end", 0, 1, (("a", 0),)), ("tell", (("a", 0),)), ("hear", 0, 1, (("a", 0),)),
                      ("Tell", 0, 1, (("a", 0),)), (0, 1, (("a", 0),), "tell"), ("End",), ("",), "end", "tell", "telx",
                      0, None, True, ["end"], ["tell", 0, 1, (("a", 0),)], (END,), (["tell"], 0, 1, (("a", 0),))):
            self.assert_none(with_place(place))
            self.assert_none((2, (END, place)))
            self.assert_none((2, (place,)))

    def test_each_place_is_looked_at(self):
        for k in range(40):
            self.assert_none(replaced(FORTY, (1, k), ("rests",)))

    def test_what_is_handed_in_stays_and_the_same_is_told_again(self):
        for thing in (ROUND, [2, [["end"], ["tell", 0, 1, [["a", 0]]]]], (2, [END]), (2, (tell(choices=[("a", 0)]),))):
            before = copy.deepcopy(thing)
            first = is_dance(thing)
            self.assertEqual(thing, before)
            self.assertIs(is_dance(thing), first)


if __name__ == "__main__":
    unittest.main()
