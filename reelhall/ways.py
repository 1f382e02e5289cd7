"""The one way through a dance that all dancers are on, whoever is ahead."""

from reelhall.things import choices_of


def words_told(done):
    # What was heard needs no look: it was told too, and stands on the way where it was told.
    told = {}
    for move in done:
        if move[0] == "tell":
            told.setdefault(move[1], []).append(move[3])
    return told


def tells_on(place, told):
    return place[0] == "tell" and len(told.get(place[1], ())) > 0


def nearest_teller(dance, start, told):
    # Where the teller has told nothing yet, none knows the word, so the way may go on by any. A dancer that told ahead
    # comes to its turn from every place it can't tell apart, so some such place is found; the nearest one, by words
    # alone, hangs on no number of a dancer or place.
    words_to = {start: ()}
    waiting = [start]
    while not tells_on(dance[1][waiting[0]], told):
        number = waiting.pop(0)
        for word, come_to in choices_of(dance[1][number]):
            if come_to not in words_to:
                words_to[come_to] = words_to[number] + (word,)
                waiting.append(come_to)
    return (waiting[0], words_to[waiting[0]])


def way_of(dance, done):
    told = words_told(done)
    number = 0
    way = []
    while any([len(words) > 0 for words in told.values()]):
        found = nearest_teller(dance, number, told)
        way.extend(found[1])
        place = dance[1][found[0]]
        word = told[place[1]].pop(0)
        way.append(word)
        number = dict(place[3])[word]
    return tuple(way)
