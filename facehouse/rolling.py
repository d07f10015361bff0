"""Whether an end can be rolled to another edition, and if not, why (29)."""

from facehouse.basics import is_whole
from facehouse.errors import NoBody
from facehouse.founding import asks_ill, ring_of
from facehouse.letters import key_above
from facehouse.talk import talks
from facehouse.wire import read


def why_no_roll(house, end, name, edition):
    """The first reason why an end can't be rolled to an edition of a face, of any things; None where it can.

    Each reason is looked for only where none ahead of it is so.
    """
    if not isinstance(name, str) or not is_whole(edition):
        return ("edition",)
    if name not in end.editions or (name, edition) not in house.editions:
        return ("edition",)
    face = house.editions[(name, edition)]
    return (
        wrong_among_ends(house, end, face)
        or silent_end(house, end, face)
        or unread_letter(house, end, face)
        or unread_key(house, end, face)
    )


def wrong_among_ends(house, end, face):
    """Whether what the end serves may not ask what it speaks, or a ring of faces, once it is rolled to a face."""
    ends = [(other.name, other.serves, spoken_then(other, end, face)) for other in list(house.ends.values())]
    if asks_ill(house.editions, end.serves, spoken_then(end, end, face)):
        return ("among",)
    return ring_of(house.editions, ends)


def spoken_then(other, end, face):
    """What an end speaks once one end is rolled to a face."""
    if other.name != end.name:
        return other.spoken()
    return tuple([(name, face.edition if name == face.name else edition) for name, edition in end.spoken()])


def silent_end(house, end, face):
    """The first end with which the end, rolled to a face, would not talk."""
    for name in sorted(house.ends):
        other = house.ends[name]
        if name != end.name and face.name in other.editions:
            theirs = house.editions[(face.name, other.editions[face.name])]
            if end.serves == face.name and not talks(theirs, face):
                return "talk", name
            if other.serves == face.name and not talks(face, theirs):
                return "talk", name
    return None


def unread_letter(house, end, face):
    """The least letter for the end that it could not read by a face."""
    letters = list(house.mail.values()) + end.letters
    letters = [letter for letter in letters if letter.goal == end.name and letter.face == face.name]
    numbers = [letter.number for letter in letters if not is_letter_read(end, face, letter)]
    return ("letter", min(numbers)) if numbers else None


def is_letter_read(end, face, letter):
    """Whether the end could read a letter by a face, where it would read it at all."""
    if letter.way == "ask":
        return is_ask_read(face, letter)
    if letter.way == "fault" or not is_live(end, letter.key):
        return True
    return is_answer_read(end, face, letter.key, letter.call, letter.body)


def is_live(end, key):
    """Whether an end waits for the answer of a key that it asked, or might ask so again."""
    above = key_above(key)
    return key in end.asks or (above is not None and above not in end.rows_done)


def is_ask_read(face, letter):
    """Whether an ask's letter is read by a face; not where this hasn't the call."""
    return letter.call in face.call_numbers() and is_read(face, face.call_of(letter.call)[2], letter.body)


def is_answer_read(end, face, key, number, body):
    """Whether an answer under a live key is read by a face; without the call it is waited for only where open."""
    if number not in face.call_numbers():
        return key not in end.asks
    return is_read(face, face.call_of(number)[3], body)


def is_read(face, record, body):
    """Whether a body is read by a face's record."""
    try:
        read(face, record, body)
    except NoBody:
        return False
    return True


def unread_key(house, end, face):
    """The least key of which the end could not read something by a face."""
    if end.serves == face.name:
        keys = unread_asks(house, end, face)
    else:
        keys = unread_kept(end, face) + unread_rows(house, end, face) + uncalled_asks(end, face)
    return ("key", min(keys)) if keys else None


def unread_asks(house, end, face):
    """The keys of others' open asks of a face, and of the end's works, that aren't read by it."""
    letters = [work.letter for work in list(end.begun.values())]
    for other in list(house.ends.values()):
        letters.extend([ask.letter for ask in list(other.asks.values()) if ask.letter.face == face.name])
    return [letter.key for letter in letters if not is_ask_read(face, letter)]


def unread_kept(end, face):
    """The keys of answers that the end's works keep and that aren't read by a face."""
    letters = [letter for work in list(end.begun.values()) for letter in list(work.kept.values())]
    return [letter.key for letter in letters if letter.face == face.name and not is_letter_read(end, face, letter)]


def unread_rows(house, end, face):
    """The live keys that the end asked and of which the ledger has an answer that isn't read by a face."""
    keys = []
    for tick, server, name, key, sender, spoken, number, ask, came in house.rows:
        if sender == end.name and name == face.name and came[0] == "done" and is_live(end, key):
            if not is_answer_read(end, face, key, number, came[1]):
                keys.append(key)
    return keys


def uncalled_asks(end, face):
    """The keys of the end's open asks of a face that hasn't their call."""
    letters = [ask.letter for ask in list(end.asks.values()) if ask.letter.face == face.name]
    return [letter.key for letter in letters if letter.call not in face.call_numbers()]
