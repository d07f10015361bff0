"""Traces: how an answer came about, and the looker at them (28)."""

from facehouse.basics import is_name, is_whole
from facehouse.books import by_editions, faces_spoken
from facehouse.errors import NoKey
from facehouse.lookers import is_key_of, is_spoken, reckoned
from facehouse.reckoning import reckon
from facehouse.values import GREATEST_WHOLE
from facehouse.wire import read

TRACE_SIZE = 9
# Where the field stands in a deed whose value is a text of the store.
TEXT_PLACES = {"take": 1, "add": 1, "tell": 2}


def trace(house, key):
    """The trace of a key in the ledger; NoKey, of any thing."""
    rows = house.ledger()
    if key not in [row[3] for row in rows]:
        raise NoKey(key)
    held = {}
    ahead = {}
    traces = {}
    # What a row asked stands ahead of it, so one way through the ledger meets children first.
    for tick, end, name, own, sender, spoken, number, ask, came in rows:
        face, others = faces_spoken(house.editions, spoken, name)
        store = held.get(end, {})
        result, taken = reckon(face, others, own, number, ask, store, ahead)
        before = tuple([(text, store.get(text, 0)) for text in texts_of(face, number, ask)])
        children = tuple([traces[below] for below in taken])
        traces[own] = (end, name, own, spoken, number, ask, before, came, children)
        if own == key:
            break
        ahead[own] = came
        held[end] = result[2] if result[0] == "done" else store
    return traces[key]


def texts_of(face, number, ask):
    """The texts, rising, of the store that the deeds of a call look at, by its ask's body."""
    call = face.call_of(number)
    value = read(face, call[2], ask)
    deeds = [deed for deed in call[4] if deed[0] in TEXT_PLACES]
    return sorted(set([value[deed[TEXT_PLACES[deed[0]]]] for deed in deeds]))


def explains(book, thing):
    """Whether any thing is a trace that explains itself, by a book."""
    return is_explained(by_editions(book), thing)


def is_explained(editions, thing):
    """As explains, by a book's editions."""
    if not isinstance(thing, tuple) or len(thing) != TRACE_SIZE:
        return False
    end, face, key, spoken, number, ask, before, came, children = thing
    if not is_name(end) or not is_key_of(key, face, number) or not is_spoken(editions, spoken, face):
        return False
    if not is_before(before) or not isinstance(children, tuple):
        return False
    if not all([is_explained(editions, child) for child in children]):
        return False
    ahead = {child[2]: child[7] for child in children}
    found = reckoned(editions, (face, key, spoken, number, ask, came), dict(before), ahead)
    if found is None:
        return False
    result, taken = found
    served, others = faces_spoken(editions, spoken, face)
    texts = [text for text, held in before]
    return taken == [child[2] for child in children] and texts == texts_of(served, number, ask)


def is_before(thing):
    """Whether any thing is a tuple of texts with what a store can have under them."""
    return isinstance(thing, tuple) and all([is_held(pair) for pair in thing])


def is_held(thing):
    """Whether any thing is a text with a number that a store can have under it."""
    if not isinstance(thing, tuple) or len(thing) != 2:
        return False
    return isinstance(thing[0], str) and is_whole(thing[1]) and 0 <= thing[1] <= GREATEST_WHOLE
