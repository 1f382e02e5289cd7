"""Dances: what is one, where a way through it leads, and the same dance under other numbers."""

FEWEST_DANCERS = 2
MOST_DANCERS = 4
MOST_PLACES = 40
MOST_CHOICES = 3
LONGEST_WORD = 3


def is_whole(thing):
    # Python counts True and False among its ints; here they are no numbers.
    return isinstance(thing, int) and not isinstance(thing, bool)


def is_number_below(thing, bound):
    return is_whole(thing) and 0 <= thing < bound


def is_word(thing):
    if not isinstance(thing, str) or not 1 <= len(thing) <= LONGEST_WORD:
        return False
    return all(["a" <= sign <= "z" for sign in thing])


def is_choice(thing, place_count):
    if not isinstance(thing, tuple) or len(thing) != 2:
        return False
    return is_word(thing[0]) and is_number_below(thing[1], place_count)


def are_choices(thing, place_count):
    if not isinstance(thing, tuple) or not 1 <= len(thing) <= MOST_CHOICES:
        return False
    if not all([is_choice(choice, place_count) for choice in thing]):
        return False
    return all([thing[k - 1][0] < thing[k][0] for k in range(1, len(thing))])


def is_place(thing, many, place_count):
    if thing == ("end",):
        return True
    if not isinstance(thing, tuple) or len(thing) != 4 or thing[0] != "tell":
        return False
    if not is_number_below(thing[1], many) or not is_number_below(thing[2], many):
        return False
    return thing[1] != thing[2] and are_choices(thing[3], place_count)


def is_dance(thing):
    if not isinstance(thing, tuple) or len(thing) != 2:
        return False
    many = thing[0]
    places = thing[1]
    if not is_whole(many) or not FEWEST_DANCERS <= many <= MOST_DANCERS:
        return False
    if not isinstance(places, tuple) or not 1 <= len(places) <= MOST_PLACES:
        return False
    return all([is_place(place, many, len(places)) for place in places])


def choices_of(place):
    # Nothing goes on behind an end, so whoever walks on from it finds no choice.
    if place[0] == "end":
        return ()
    return place[3]


def goes(dance, way):
    places = dance[1]
    number = 0
    for word in way:
        nexts = dict(choices_of(places[number]))
        if word not in nexts:
            return None
        number = nexts[word]
    return number


def renamed_place(place, dancers, numbers):
    if place[0] == "end":
        return place
    choices = tuple([(word, numbers[number]) for word, number in place[3]])
    return ("tell", dancers[place[1]], dancers[place[2]], choices)


def renamed(dance, dancers, numbers):
    places = dance[1]
    moved = {}
    for number, place in enumerate(places):
        moved[numbers[number]] = renamed_place(place, dancers, numbers)
    return (dance[0], tuple([moved[number] for number in range(len(places))]))
