"""Deeds that are run by a house, one after another (31)."""

from facehouse.errors import Down, NoCall, NoDeed, NoLetter, NoName, NoRoll, NoValue, NoWork, Up

# How many things a deed has, its word counted.
DEED_SIZES = {
    "ask": 5, "carry": 2, "double": 2, "lose": 2, "work": 2, "tick": 1, "fall": 2, "rise": 2, "roll": 4, "settle": 1,
}


def do_deed(house, deed, at):
    """Do a deed, of any thing; what it tells. NoDeed with its place, where it is none."""
    if not isinstance(deed, tuple) or not deed or not isinstance(deed[0], str):
        raise NoDeed(at)
    if DEED_SIZES.get(deed[0]) != len(deed):
        raise NoDeed(at)
    word, *rest = deed
    if word == "ask":
        return house.ask(*rest)
    if word == "roll":
        return house.roll(*rest)
    if word == "tick":
        return house.tick()
    if word == "settle":
        return house.settle()
    return do_plain_deed(house, word, rest[0])


def do_plain_deed(house, word, thing):
    """Do a deed of a word and one thing: a letter's number, or an end."""
    if word == "carry":
        return house.carry(thing)
    if word == "double":
        return house.double(thing)
    if word == "lose":
        return house.lose(thing)
    if word == "work":
        return house.work(thing)
    if word == "fall":
        return house.fall(thing)
    return house.rise(thing)


def try_deed(house, deed, at):
    """Whether a deed, of any thing, is done, and what it tells, or the name of its refusal's class."""
    try:
        return True, do_deed(house, deed, at)
    except NoDeed:
        return False, "NoDeed"
    except NoName:
        return False, "NoName"
    except NoCall:
        return False, "NoCall"
    except NoValue:
        return False, "NoValue"
    except NoLetter:
        return False, "NoLetter"
    except NoWork:
        return False, "NoWork"
    except NoRoll:
        return False, "NoRoll"
    except Down:
        return False, "Down"
    except Up:
        return False, "Up"
