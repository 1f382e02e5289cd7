"""A hall: all dance by their parts alone, each at its own time, and words are on the way between them."""

from reelhall.errors import NoMove
from reelhall.parts import part_of
from reelhall.things import is_whole


class Hall:
    def __init__(self, dance):
        self.parts = [part_of(dance, dancer) for dancer in range(dance[0])]
        self.at = [0 for part in self.parts]
        self.rows = {}
        self.past = []

    def states(self):
        return tuple(self.at)

    def row(self, one, other):
        return tuple(self.rows.get((one, other), ()))

    def state_of(self, dancer):
        return self.parts[dancer][self.at[dancer]]

    def moves_of(self, dancer):
        state = self.state_of(dancer)
        if state[0] == "tells":
            return [("tell", dancer, state[1], word) for word, number in state[2]]
        if state[0] == "hears":
            first = self.row(state[1], dancer)[:1]
            return [("hear", state[1], dancer, word) for word, number in state[2] if (word,) == first]
        return []

    def moves(self):
        found = []
        for dancer in range(len(self.parts)):
            found.extend(self.moves_of(dancer))
        return tuple(found)

    def can_be_done(self, move):
        # Python takes True for 1, but it is no dancer's number.
        return move in self.moves() and is_whole(move[1]) and is_whole(move[2])

    def do(self, move):
        if not self.can_be_done(move):
            raise NoMove(f"{move!r} can't be done")
        pair = (move[1], move[2])
        if move[0] == "tell":
            self.rows.setdefault(pair, []).append(move[3])
            self.go_on(move[1], move[3])
        else:
            self.rows[pair].pop(0)
            self.go_on(move[2], move[3])
        self.past.append(move)

    def go_on(self, dancer, word):
        self.at[dancer] = dict(self.state_of(dancer)[2])[word]

    def done(self):
        return tuple(self.past)

    def is_over(self):
        for dancer in range(len(self.parts)):
            if self.state_of(dancer)[0] not in ("end", "rests"):
                return False
        return all([len(row) == 0 for row in self.rows.values()])
