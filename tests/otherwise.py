"""Things with one part put otherwise, and any things by dice, for the tests."""


def otherwise(thing):
    """Things like another one, each with one part put otherwise, at any depth."""
    yield from whole_otherwise(thing)
    if isinstance(thing, (tuple, list)):
        for at, part in enumerate(thing):
            for other in otherwise(part):
                yield type(thing)([*thing[:at], other, *thing[at + 1:]])
    elif isinstance(thing, dict):
        for key, part in thing.items():
            for other in otherwise(part):
                yield {**thing, key: other}


def whole_otherwise(thing):
    """Things unlike another one as a whole: of another kind, a little greater or less, with parts more or fewer."""
    if isinstance(thing, bool) or thing is None:
        yield from (0, 1, "", not thing)
    elif isinstance(thing, int):
        yield from (thing + 1, thing - 1, str(thing), None, (thing,), thing + 256)
        if thing in (0, 1):
            yield bool(thing)
    elif isinstance(thing, str):
        yield from (thing + "a", thing[:-1] if thing else " ", "", None, 1, (thing,), thing + ".", thing.upper() + " ")
    elif isinstance(thing, (tuple, list)):
        yield list(thing) if isinstance(thing, tuple) else tuple(thing)
        yield from (thing + type(thing)([None]), None, "")
        for at in range(len(thing)):
            yield thing[:at] + thing[at + 1:]
            yield thing[:at] + thing[at:at + 1] + thing[at:]
        for at in range(len(thing) - 1):
            yield thing[:at] + thing[at + 1:at + 2] + thing[at:at + 1] + thing[at + 2:]
    elif isinstance(thing, dict):
        yield from ([], None, {**thing, "zz": {}}, {**thing, "zz": 1})
        for key in thing:
            yield {other: part for other, part in thing.items() if other != key}


def some_thing(dice, depth=6):
    """Any thing, by the throws of dice."""
    word = dice.randrange(8 if depth else 5)
    if word == 0:
        return dice.choice((None, True, False))
    if word == 1:
        return dice.choice((0, 1, -1, 2, 10**29, dice.randrange(300)))
    if word < 5:
        return dice.choice(("", "a", "done", "fault", "bank", "ada1", "ada1.bank1", "x" * 400, "plan", "none", "\n", " "))
    parts = [some_thing(dice, depth - 1) for _ in range(dice.randrange(10))]
    if word == 7:
        return {str(at): part for at, part in enumerate(parts)}
    return parts if word == 6 else tuple(parts)
