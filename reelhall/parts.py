"""A dancer's part: what it tells and hears itself, and nothing of what the others do among themselves."""

from reelhall.errors import NoPart
from reelhall.knowing import apart, takes_part
from reelhall.things import choices_of


def is_turn(place, dancer):
    return place[0] == "end" or takes_part(place, dancer)


def turns_among(dance, dancer, some):
    places = [dance[1][number] for number in some]
    return [place for place in places if is_turn(place, dancer)]


def asked_at(turn, dancer):
    # Only what all turns of one state must have alike: who hears may be told unlike words, who tells chooses them.
    if turn[0] == "end":
        return ("end",)
    if turn[1] == dancer:
        return ("tells", turn[2], tuple([choice[0] for choice in turn[3]]))
    return ("hears", turn[1])


def asked_at_all(turns, dancer):
    if len(turns) == 0:
        return ("rests",)
    asked = asked_at(turns[0], dancer)
    if not all([asked_at(turn, dancer) == asked for turn in turns]):
        raise NoPart(f"dancer {dancer} can't know which of unlike turns it is at")
    return asked


def nexts_by_word(turns):
    nexts = {}
    for turn in turns:
        for word, number in choices_of(turn):
            nexts.setdefault(word, []).append(number)
    return nexts


def in_vain(dance, dancer):
    # A dancer that still has turns waits in vain at a place from which none of them is ever come to.
    found = {}
    for number in range(len(dance[1])):
        if len(turns_among(dance, dancer, apart(dance, dancer, (number,)))) == 0:
            found[number] = True
    return found


def refuse_waiting_in_vain(dancer, some, turns, vain):
    if len(turns) > 0 and any([number in vain for number in some]):
        raise NoPart(f"dancer {dancer} may wait in vain for its turn")


def part_of(dance, dancer):
    vain = in_vain(dance, dancer)
    known = [apart(dance, dancer, (0,))]
    numbers = {known[0]: 0}
    part = []
    while len(part) < len(known):
        some = known[len(part)]
        turns = turns_among(dance, dancer, some)
        refuse_waiting_in_vain(dancer, some, turns, vain)
        asked = asked_at_all(turns, dancer)
        nexts = nexts_by_word(turns)
        pairs = []
        for word in sorted(nexts):
            come_to = apart(dance, dancer, tuple(nexts[word]))
            if come_to not in numbers:
                numbers[come_to] = len(known)
                known.append(come_to)
            pairs.append((word, numbers[come_to]))
        part.append((asked[0], asked[1], tuple(pairs)) if asked[0] in ("tells", "hears") else asked)
    return tuple(part)


def is_fair(dance):
    for dancer in range(dance[0]):
        try:
            part_of(dance, dancer)
        except NoPart:
            return False
    return True
