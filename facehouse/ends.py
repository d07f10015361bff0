"""The ends of a house: what they have written down, and what is in their heads (20)."""

from facehouse.errors import Down, NoName


class End:
    """One end. What it has written down stays through all; what is in its head is forgotten where it falls."""

    def __init__(self, name, serves, speaks):
        self.name = name
        self.serves = serves
        # The editions that it speaks, by the names of faces, rising.
        self.editions = dict(speaks)
        self.held = {}
        # Its part of the ledger: rows by their keys.
        self.rows_done = {}
        # How its asks by hand stand, by their keys, from the first on.
        self.stands = {}
        self.up = True
        self.letters = []
        self.asks = {}
        self.begun = {}

    def forget(self):
        """Forget all that is in the head; asks by hand that are open are lost by this."""
        for key in self.asks:
            if key in self.stands:
                self.stands[key] = ("lost",)
        self.letters = []
        self.asks = {}
        self.begun = {}

    def spoken(self):
        """All editions that it speaks, as a house is made of them."""
        return tuple([(face, self.editions[face]) for face in self.editions])


class OpenAsk:
    """An ask that is open: its letter, how often it was sent, and when last."""

    def __init__(self, letter, clock):
        self.letter = letter
        self.sendings = 1
        self.since = clock


class Work:
    """A work that is begun: the letter that asked for it, and the letters that answered it so far, by their keys."""

    def __init__(self, letter):
        self.letter = letter
        self.kept = {}


def end_named(house, name):
    """The end of this name; NoName, of any thing."""
    if not isinstance(name, str) or name not in house.ends:
        raise NoName(name)
    return house.ends[name]


def end_up(house, name):
    """The end of this name, where it is up; NoName, of any thing, or Down."""
    end = end_named(house, name)
    if not end.up:
        raise Down(name)
    return end
