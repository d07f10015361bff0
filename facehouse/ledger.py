"""The looker at ledgers: whether rows explain each other, and all stores (27)."""

from facehouse.basics import is_whole
from facehouse.books import by_editions
from facehouse.lookers import is_key_of, is_spoken, reckoned

ROW_SIZE = 9


def fits(book, serves, rows, stores):
    """Whether any things are a ledger and the stores that it leaves, by a book and what each end serves."""
    if not isinstance(rows, list):
        return False
    editions = by_editions(book)
    held = {end: {} for end in serves}
    came = {}
    last = 0
    for row in rows:
        if not is_row(editions, serves, row) or row[0] < last or row[3] in came:
            return False
        last = row[0]
        end = row[1]
        found = reckoned(editions, (row[2], row[3], row[5], row[6], row[7], row[8]), held[end], came)
        if found is None:
            return False
        result, taken = found
        if result[0] == "done":
            held[end] = result[2]
        came[row[3]] = row[8]
    return are_stores(held, stores)


def is_row(editions, serves, thing):
    """Whether any thing is a row, but for its tick's bound and what its call comes to."""
    if not isinstance(thing, tuple) or len(thing) != ROW_SIZE:
        return False
    tick, end, face, key, sender, spoken, number, ask, came = thing
    if not isinstance(end, str) or end not in serves or serves[end] != face:
        return False
    if not isinstance(sender, str) or sender not in serves or sender == end:
        return False
    return is_whole(tick) and is_key_of(key, face, number) and is_spoken(editions, spoken, face)


def are_stores(held, stores):
    """Whether any thing is a dict of just these stores, without truths for numbers."""
    return stores == held and all([is_whole(store[text]) for store in list(stores.values()) for text in store])
