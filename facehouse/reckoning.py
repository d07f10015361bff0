"""What a call comes to, from bodies to bodies: of works in houses, of rows of ledgers, of parts of traces (24, 27)."""

from facehouse.deeds import outcome
from facehouse.letters import key_below
from facehouse.wire import read, written


def reckon(face, spoken, key, number, ask, store, came):
    """The outcome of a call by an ask's body, and the keys below of the answers that it took, in order.

    came has what came of asks, as rows of the ledger tell it, by their keys. Only what the outcome takes is
    read, so an ask that the deeds don't reach needs no answer.
    """
    faces = {other.name: other for other in spoken}
    value = read(face, face.call_of(number)[2], ask)
    answers = []
    taken = []
    while True:
        result = outcome(face, spoken, number, value, store=store, answers=answers)
        if result[0] != "ask":
            return result, taken
        below = key_below(key, result[1], result[2])
        if below not in came:
            return result, taken
        answers.append(answer_read(faces[result[1]], result[2], came[below]))
        taken.append(below)


def answer_read(face, number, came):
    """What came of a call, as outcomes take it: an answer is read by the face."""
    if came[0] == "fault":
        return came
    return "done", read(face, face.call_of(number)[3], came[1])


def came_of(face, number, result):
    """What came of a call, as rows of the ledger tell it, by its outcome."""
    if result[0] == "fault":
        return result
    return "done", written(face, face.call_of(number)[3], result[1])
