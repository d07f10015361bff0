"""A house: ends made of faces, letters between them, and a ledger of what was done (19 to 26, 29, 31)."""

from facehouse.books import by_editions
from facehouse.ends import End, end_named, end_up
from facehouse.errors import NoHouse, NoKey, NoRoll, NoWork, Up
from facehouse.founding import why_no_house
from facehouse.post import carry_letter, letter_in_net, send_like
from facehouse.rolling import why_no_roll
from facehouse.running import do_deed, try_deed
from facehouse.wire import read
from facehouse.working import ask_by_hand, pass_tick, settle_all, work_letter

ROOM = 6
WAITS = (1, 2, 4, 8)


class House:
    """Ends, the net between them, the clock and the ledger."""

    def __init__(self, book, ends, *, room=ROOM, waits=WAITS):
        reason = why_no_house(book, ends)
        if reason is not None:
            raise NoHouse(reason)
        self.editions = by_editions(book)
        self.ends = {name: End(name, serves, speaks) for name, serves, speaks in ends}
        # The names of the ends that serve, by those of the faces.
        self.servers = {serves: name for name, serves, speaks in ends if serves is not None}
        self.room = room
        self.waits = waits
        self.ticks = 0
        # How many letters were numbered so far, and those in the net, by their numbers.
        self.sent = 0
        self.mail = {}
        self.rows = []
        self.runs = 0
        self.steps = 0

    def ask(self, end, face, number, value):
        """Let an end ask; the key. NoName of the end, Down, NoName of the face, NoCall, NoValue."""
        return ask_by_hand(self, end_up(self, end), face, number, value)

    def carry(self, number):
        """Carry a letter: "queued" or "lost". NoLetter."""
        return carry_letter(self, number)

    def double(self, number):
        """Double a letter; the number of the new one. NoLetter."""
        return send_like(self, letter_in_net(self, number))

    def lose(self, number):
        """Lose a letter. NoLetter."""
        letter = letter_in_net(self, number)
        del self.mail[letter.number]

    def work(self, end):
        """Let an end work off the first letter of its queue; what it comes to. NoName, Down, NoWork."""
        worker = end_up(self, end)
        if not worker.letters:
            raise NoWork(end)
        return work_letter(self, worker)

    def tick(self):
        """Let a tick pass; the clock."""
        return pass_tick(self)

    def fall(self, end):
        """Let an end fall. NoName, Down."""
        falling = end_up(self, end)
        falling.forget()
        falling.up = False

    def rise(self, end):
        """Let an end rise. NoName, Up."""
        rising = end_named(self, end)
        if rising.up:
            raise Up(end)
        rising.up = True

    def settle(self):
        """Work and carry till all is quiet; how many letters were carried."""
        return settle_all(self)

    def roll(self, end, face, edition):
        """Roll an end to an edition of a face that it speaks. NoName of the end, NoRoll."""
        rolled = end_named(self, end)
        reason = why_no_roll(self, rolled, face, edition)
        if reason is not None:
            raise NoRoll(reason)
        rolled.editions[face] = edition

    def run(self, deeds, *, stop=True):
        """Do deeds one after another; what they tell. NoDeed, and what they refuse, unless stop is False."""
        tells = []
        done = 0
        try:
            for at, deed in enumerate(list(deeds)):
                is_done, tell = (True, do_deed(self, deed, at)) if stop else try_deed(self, deed, at)
                tells.append(tell)
                if is_done:
                    done += 1
        finally:
            self.runs += 1
            self.steps += done
        return tells

    def told(self, key):
        """How a key that was asked by hand stands. NoKey."""
        for end in list(self.ends.values()):
            if isinstance(key, str) and key in end.stands:
                stand = end.stands[key]
                if stand[0] != "done":
                    return stand
                word, face, edition, number, body = stand
                spoken = self.editions[(face, edition)]
                # Read anew each time, so that what is told is the asker's own.
                return "done", read(spoken, spoken.call_of(number)[3], body)
        raise NoKey(key)

    def is_up(self, end):
        """Whether an end is up. NoName."""
        return end_named(self, end).up

    def store(self, end):
        """The store of an end. NoName."""
        return dict(end_named(self, end).held)

    def queue(self, end):
        """The letters in the queue of an end, the first one first. NoName."""
        return list(end_named(self, end).letters)

    def open_asks(self, end):
        """The keys of an end's open asks, as they were opened. NoName."""
        return list(end_named(self, end).asks)

    def works(self, end):
        """The keys of an end's works, as they were begun. NoName."""
        return list(end_named(self, end).begun)

    def speaks(self, end):
        """The editions that an end speaks, as a house is made of them. NoName."""
        return end_named(self, end).spoken()

    def net(self):
        """The letters in the net, rising."""
        return [self.mail[number] for number in sorted(self.mail)]

    def clock(self):
        """How many ticks have passed."""
        return self.ticks

    def ledger(self):
        """All rows of the ledger, in the order in which they were done."""
        return list(self.rows)
