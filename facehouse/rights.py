"""What is wrong with a face (7, 8)."""

from facehouse.kinds import name_in, names_nobody
from facehouse.values import least_sizes

GREATEST_LEAST = 60
SETTING_WORDS = ("tell", "copy", "get")


def wrong(face):
    """A sorted list of all that is wrong with a face, each once; it is empty where the face is right."""
    found = strangers_in_kinds(face) + endless_records(face)
    for call in face.calls:
        strangers = strangers_of(face, call)
        # Without both records nothing can be said of the deeds.
        found.extend(strangers if strangers else wrong_deeds(face, call) + unset_fields(face, call))
    return sorted(set(found))


def strangers_in_kinds(face):
    """What kinds name that isn't there."""
    found = []
    for record, fields in face.records:
        kinds = [kind for number, name, kind, need in fields]
        found.extend([("nobody", record, name_in(kind)) for kind in kinds if names_nobody(face, kind)])
    return found


def endless_records(face):
    """The records without a least value that is small enough."""
    sizes = least_sizes(face)
    names = [record for record, fields in face.records]
    return [("endless", name) for name in names if name not in sizes or sizes[name] > GREATEST_LEAST]


def strangers_of(face, call):
    """What a call has as ask or answer that is no record."""
    number, name, ask, answer, deeds = call
    records = [record for record, fields in face.records]
    return [("nobody", name, asked) for asked in (ask, answer) if asked not in records]


def wrong_deeds(face, call):
    """The deeds of a call that aren't as told, and those that do again what one ahead of them did."""
    number, name, ask, answer, deeds = call
    asked = fields_by_name(face, ask)
    answered = fields_by_name(face, answer)
    found = []
    done = []
    for place, deed in enumerate(deeds):
        if not is_as_told(face, deed, asked, answered, deeds[:place]):
            found.append(("deed", name, place))
        effect = effect_of(deed, answered)
        if effect is not None and effect in done:
            found.append(("twice", name, place))
        done.append(effect)
    return found


def fields_by_name(face, record):
    """The fields of a record as (kind, need), by their names."""
    return {name: (kind, need) for number, name, kind, need in face.fields_of(record)}


def is_as_told(face, deed, asked, answered, ahead):
    """Whether a deed fits the fields of ask and answer, and the deeds ahead of it."""
    word = deed[0]
    if word in ("take", "add"):
        return asked.get(deed[1]) == ("text", "must") and asked.get(deed[2]) == ("whole", "must")
    if word == "tell":
        return deed[1] in answered and answered[deed[1]][0] == "whole" and asked.get(deed[2]) == ("text", "must")
    if word == "copy":
        return deed[1] in answered and deed[2] in asked and can_copy(answered[deed[1]], asked[deed[2]])
    if word == "ask":
        return deed[1] != face.name
    return deed[1] in answered and "ask" in [other[0] for other in ahead]


def can_copy(goal, source):
    """Whether a field of the answer can be set to one of the ask, both as (kind, need)."""
    return goal[0] == source[0] and (source[1] == "must" or goal[1] == "may")


def effect_of(deed, answered):
    """What a deed does that no other one of its call may do, whether it is as told or not; None of the rest."""
    if deed[0] == "ask":
        return deed
    if deed[0] in SETTING_WORDS and deed[1] in answered:
        return "set", deed[1]
    return None


def unset_fields(face, call):
    """The must fields of a call's answer that no deed sets."""
    number, name, ask, answer, deeds = call
    answered = fields_by_name(face, answer)
    effects = [effect_of(deed, answered) for deed in deeds]
    musts = [field for field in answered if answered[field][1] == "must"]
    return [("unset", name, field) for field in musts if ("set", field) not in effects]
