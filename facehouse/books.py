"""Books of faces, and what an end speaks of them (19)."""


def by_editions(book):
    """The faces of a book by (name, edition)."""
    return {(face.name, face.edition): face for face in book}


def faces_spoken(editions, spoken, name):
    """The face of this name among spoken (face, edition), and the others as a tuple, by a book's editions."""
    served = [editions[pair] for pair in spoken if pair[0] == name]
    others = [editions[pair] for pair in spoken if pair[0] != name]
    return served[0], tuple(others)
