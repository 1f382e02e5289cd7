"""What a dancer can't tell apart: places that others may have gone on to without it."""

from reelhall.things import choices_of


def takes_part(place, dancer):
    return place[0] == "tell" and dancer in (place[1], place[2])


def apart(dance, dancer, some):
    places = dance[1]
    come_to = {}
    waiting = list(some)
    while len(waiting) > 0:
        number = waiting.pop()
        if number in come_to:
            continue
        come_to[number] = True
        if not takes_part(places[number], dancer):
            waiting.extend([choice[1] for choice in choices_of(places[number])])
    return tuple(sorted(come_to))
