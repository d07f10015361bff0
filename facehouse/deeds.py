"""Deeds: what is wrong among faces that ask, what is asked, and what a call comes to (14 to 17)."""

from facehouse.kinds import is_plain
from facehouse.rights import fields_by_name
from facehouse.values import GREATEST_WHOLE, copied

TOO_GREAT = "great"


def wrong_among(face, spoken=()):
    """A sorted list of all that is wrong where a face asks of spoken ones."""
    found = []
    for call in face.calls:
        found.extend(wrong_asks(face, spoken, call) + wrong_gets(face, spoken, call))
    return sorted(found)


def wrong_asks(face, spoken, call):
    """The asks of a call that nobody answers, and the fields that can't be asked with."""
    number, name, ask, answer, deeds = call
    own = fields_by_name(face, ask)
    found = []
    for place, deed in enumerate(deeds):
        if deed[0] == "ask":
            goal = face_asked(spoken, deed)
            if goal is None:
                found.append(("nobody", name, place))
            else:
                theirs = fields_by_name(goal, goal.call_named(deed[2])[2])
                fields = [field for field in theirs if is_left_out(own, field, theirs[field])]
                found.extend([("asked", name, place, field) for field in fields])
    return found


def face_asked(spoken, deed):
    """The spoken face that an ask's deed asks; None where there is none, or it hasn't the call."""
    for face in spoken:
        if face.name == deed[1] and deed[2] in [call[1] for call in face.calls]:
            return face
    return None


def is_left_out(own, field, theirs):
    """Whether a field that must be asked with, told as (kind, need), can't be taken from the own ask's fields."""
    kind, need = theirs
    return need == "must" and (not is_plain(kind) or own.get(field) != (kind, "must"))


def wrong_gets(face, spoken, call):
    """The gets of a call whose field isn't answered by what was asked last ahead of them."""
    number, name, ask, answer, deeds = call
    own = fields_by_name(face, answer)
    found = []
    last = None
    for place, deed in enumerate(deeds):
        if deed[0] == "ask":
            last = deed
        elif deed[0] == "get" and not can_get(spoken, last, own[deed[1]][0], deed[2]):
            found.append(("got", name, place))
    return found


def can_get(spoken, ask, kind, field):
    """Whether what an ask's deed asks answers with this field, of this kind, for sure."""
    goal = face_asked(spoken, ask)
    if goal is None or not is_plain(kind):
        return False
    return fields_by_name(goal, goal.call_named(ask[2])[3]).get(field) == (kind, "must")


def asked(face, spoken, number, place, value):
    """The value that the ask's deed at a place of a call asks with, made anew of a value of the call's ask."""
    call = face.call_of(number)
    deed = call[4][place]
    goal = face_asked(spoken, deed)
    own = fields_by_name(face, call[2])
    theirs = fields_by_name(goal, goal.call_named(deed[2])[2])
    fields = [field for field in theirs if field in value and is_plain(theirs[field][0])]
    return {field: value[field] for field in fields if own[field][0] == theirs[field][0]}


def outcome(face, spoken, number, value, *, store, answers=()):
    """What a call comes to: ("done", answer, store), ("fault", word), or ("ask", face, number, value)."""
    deeds = face.call_of(number)[4]
    held = dict(store)
    answer = {}
    taken = 0
    for place, deed in enumerate(deeds):
        if deed[0] == "ask":
            if taken == len(answers):
                goal = face_asked(spoken, deed)
                return "ask", goal.name, goal.call_named(deed[2])[0], asked(face, spoken, number, place, value)
            fault = answers[taken][1] if answers[taken][0] == "fault" else None
            taken += 1
        elif deed[0] == "get":
            fault = None
            answer[deed[1]] = answers[taken - 1][1][deed[2]]
        else:
            fault = do_at_home(deed, value, held, answer)
        if fault is not None:
            return "fault", fault
    return "done", answer, {text: held[text] for text in held if held[text] != 0}


def do_at_home(deed, value, held, answer):
    """Do a deed that needs nobody else, on the store and the answer so far; the fault's word, or None."""
    if deed[0] in ("take", "add"):
        return moved(deed, value, held)
    if deed[0] == "tell":
        answer[deed[1]] = held.get(value[deed[2]], 0)
    elif deed[2] in value:
        answer[deed[1]] = copied(value[deed[2]])
    return None


def moved(deed, value, held):
    """Take from the store, or add to it; the fault's word where that can't be, else None."""
    text = value[deed[1]]
    many = value[deed[2]]
    there = held.get(text, 0)
    if deed[0] == "take":
        if many > there:
            return deed[3]
        held[text] = there - many
    else:
        if there + many > GREATEST_WHOLE:
            return TOO_GREAT
        held[text] = there + many
    return None
