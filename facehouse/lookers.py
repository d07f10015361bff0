"""What lookers at ledgers and traces look at in any things: keys, editions spoken, and what came (27, 28)."""

from facehouse.basics import is_rising, is_whole
from facehouse.books import faces_spoken
from facehouse.deeds import wrong_among
from facehouse.errors import NoBody
from facehouse.reckoning import came_of, reckon
from facehouse.wire import is_body

MOST_SPOKEN = 4


def is_key_of(key, face, number):
    """Whether any things are a key, a face and a number: behind the last dot of a key stand face and number."""
    if not isinstance(key, str) or not isinstance(face, str) or not is_whole(number):
        return False
    above, dot, below = key.rpartition(".")
    return not dot or below == f"{face}{number}"


def is_spoken(editions, spoken, face):
    """Whether any thing is what an end that serves the face may speak, by a book's editions."""
    if not isinstance(spoken, tuple) or not 1 <= len(spoken) <= MOST_SPOKEN:
        return False
    if not all([is_edition(editions, pair) for pair in spoken]):
        return False
    names = [name for name, edition in spoken]
    if not is_rising(names) or face not in names:
        return False
    served, others = faces_spoken(editions, spoken, face)
    return not wrong_among(served, others)


def is_edition(editions, thing):
    """Whether any thing is a (face, edition) of the book."""
    if not isinstance(thing, tuple) or len(thing) != 2:
        return False
    return isinstance(thing[0], str) and is_whole(thing[1]) and thing in editions


def reckoned(editions, call, store, ahead):
    """What a call comes to, and the keys of the answers that it took; None where it doesn't come to just what came.

    call is (face, key, spoken, number, ask, came), key and spoken as the functions above want them, ask and came
    any things; ahead has what came of other calls by their keys.
    """
    name, key, spoken, number, ask, came = call
    face, others = faces_spoken(editions, spoken, name)
    if number not in face.call_numbers():
        return None
    try:
        result, taken = reckon(face, others, key, number, ask, store, ahead)
    except NoBody:
        return None
    if result[0] == "ask" or came != came_of(face, number, result):
        return None
    # A body with truths for numbers is equal to one without.
    if result[0] == "done" and not is_body(came[1]):
        return None
    return result, taken
