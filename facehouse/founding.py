"""Whether a house can be made of a book and ends, and if not, why (19)."""

from facehouse.books import by_editions, faces_spoken
from facehouse.deeds import wrong_among
from facehouse.rights import wrong
from facehouse.talk import talks


def why_no_house(book, ends):
    """The first reason why no house can be made; None where one can.

    Each reason is looked for only where none ahead of it is so: the later ones lean on the earlier.
    """
    editions = by_editions(book)
    return (
        wrong_face(editions)
        or missing_edition(editions, ends)
        or ill_served(ends)
        or ill_asking(editions, ends)
        or ring_of(editions, ends)
        or not_talking(editions, ends)
    )


def wrong_face(editions):
    """The first face of the book that isn't right."""
    for name, edition in sorted(editions):
        if wrong(editions[(name, edition)]):
            return "wrong", name, edition
    return None


def missing_edition(editions, ends):
    """The first end that speaks an edition that the book hasn't."""
    for end, serves, speaks in ends:
        for face, edition in speaks:
            if (face, edition) not in editions:
                return "edition", end, face
    return None


def ill_served(ends):
    """The first face that isn't served by just one end that speaks it."""
    spoken = [face for end, serves, speaks in ends for face, edition in speaks]
    served = [serves for end, serves, speaks in ends if serves is not None]
    served_and_spoken = [serves for end, serves, speaks in ends if serves in [pair[0] for pair in speaks]]
    for face in sorted(set(spoken + served)):
        if served.count(face) != 1 or face not in served_and_spoken:
            return "serves", face
    return None


def ill_asking(editions, ends):
    """The first end that serves what may not ask what it speaks."""
    for end, serves, speaks in ends:
        if asks_ill(editions, serves, speaks):
            return "among", end
    return None


def asks_ill(editions, serves, speaks):
    """Whether an end serves something that may not ask what it speaks."""
    if serves is None:
        return False
    face, spoken = faces_spoken(editions, speaks, serves)
    return wrong_among(face, spoken) != []


def ring_of(editions, ends):
    """The least face that, asking, comes round to itself by the editions served."""
    followers = {}
    for end, serves, speaks in ends:
        if serves is not None:
            face, spoken = faces_spoken(editions, speaks, serves)
            followers[serves] = faces_in_deeds(face)
    for face in sorted(followers):
        if face in faces_behind(followers, face):
            return "ring", face
    return None


def faces_in_deeds(face):
    """The names of all faces that the deeds of a face ask."""
    return [deed[1] for call in face.calls for deed in call[4] if deed[0] == "ask"]


def faces_behind(followers, face):
    """All faces that follow a face, at once or by others."""
    found = []
    waiting = list(followers[face])
    while waiting:
        name = waiting.pop()
        if name not in found:
            found.append(name)
            waiting.extend(followers[name])
    return found


def not_talking(editions, ends):
    """The first end with a face that it speaks, and doesn't serve, that doesn't talk with the one served."""
    served = {}
    for end, serves, speaks in ends:
        for pair in speaks:
            if pair[0] == serves:
                served[serves] = editions[pair]
    for end, serves, speaks in ends:
        for pair in speaks:
            if pair[0] != serves and not talks(editions[pair], served[pair[0]]):
                return "talk", end, pair[0]
    return None
