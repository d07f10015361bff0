"""Letters, and the keys of what is asked by them (18)."""


class Letter:
    """A letter from one end to another. It never changes."""

    def __init__(self, number, *, way, sender, goal, key, face, edition, call, body):
        self.number = number
        self.way = way
        self.sender = sender
        self.goal = goal
        self.key = key
        self.face = face
        self.edition = edition
        self.call = call
        self.body = body

    def __eq__(self, other):
        return (
            isinstance(other, Letter)
            and self.number == other.number
            and self.way == other.way
            and self.sender == other.sender
            and self.goal == other.goal
            and self.key == other.key
            and self.face == other.face
            and self.edition == other.edition
            and self.call == other.call
            and self.body == other.body
        )

    def __repr__(self):
        return f"Letter({self.number})"


def letter_like(letter, number):
    """A letter like another one, but for its number."""
    return Letter(
        number,
        way=letter.way,
        sender=letter.sender,
        goal=letter.goal,
        key=letter.key,
        face=letter.face,
        edition=letter.edition,
        call=letter.call,
        body=letter.body,
    )


def key_of(end, n):
    """The key of an end's n-th ask."""
    return f"{end}{n}"


def key_below(key, face, number):
    """The key of what is asked for a key: a call, by its number, of a face."""
    return f"{key}.{face}{number}"


def key_above(key):
    """The key for which a key was asked; None where it was asked by hand."""
    above, dot, below = key.rpartition(".")
    return above if dot else None
