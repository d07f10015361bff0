"""The lookers once more, for the tests: ledgers, traces, plans of rollings, houses as texts, a second reckoning."""

import re

from facehouse.errors import NoFace
from facehouse.facetexts import read_face, show_face
from facehouse.rights import wrong
from tests.plays import can_be_made
from tests.reference import Refused, body_of, value_of
from tests.second import Row, among, calls, come_so, do_talk, repr_of


class Unfit(Exception):
    """What is looked at isn't so."""


def hold(so):
    if not so:
        raise Unfit


def is_so(look, *things):
    """Whether a look at things comes to its end."""
    try:
        look(*things)
    except (Unfit, Refused):
        return False
    return True


def is_whole(thing):
    return type(thing) is int


def look_at_spoken(faces, spoken, name):
    """The face of this name that is spoken, and the others, where all is as it should be."""
    hold(type(spoken) is tuple and 1 <= len(spoken) <= 4)
    for pair in spoken:
        hold(type(pair) is tuple and len(pair) == 2 and type(pair[0]) is str and is_whole(pair[1]) and pair in faces)
    names = [pair[0] for pair in spoken]
    hold(names == sorted(set(names)) and type(name) is str and name in names)
    served = [faces[pair] for pair in spoken if pair[0] == name][0]
    others = [faces[pair] for pair in spoken if pair[0] != name]
    hold(not among(served, others))
    return served, others


def look_at_key(key, face, number):
    hold(type(key) is str and is_whole(number))
    if "." in key:
        hold(key.split(".")[-1] == face + str(number))


def look_at_call(served, others, row, store, answer_of):
    """The outcome of a row or a part of a trace, and the keys taken, where it comes to what came."""
    hold(row.number in calls(served))
    result, taken = come_so(served, others, row.key, row.number, row.ask, store, answer_of)
    hold(result[0] != "ask")
    if result[0] == "done":
        came = ("done", body_of(served, calls(served)[row.number].answer, result[1]))
    else:
        came = result
    hold(repr_of(row.came) == repr_of(came))
    return result, taken


def look_at_ledger(book, serves, rows, stores):
    faces = {(face.name, face.edition): face for face in book}
    hold(type(rows) is list)
    purses = {end: {} for end in serves}
    ahead = {}
    clock = 0
    for thing in rows:
        hold(type(thing) is tuple and len(thing) == 9)
        row = Row(*thing)
        hold(is_whole(row.tick) and row.tick >= clock)
        clock = row.tick
        hold(type(row.end) is str and row.end in serves and serves[row.end] is not None)
        hold(type(row.face) is str and serves[row.end] == row.face)
        hold(type(row.sender) is str and row.sender in serves and row.sender != row.end)
        look_at_key(row.key, row.face, row.number)
        hold(row.key not in ahead)
        served, others = look_at_spoken(faces, row.spoken, row.face)
        result, _ = look_at_call(served, others, row, purses[row.end], lambda key: ahead.get(key))
        if result[0] == "done":
            purses[row.end] = result[2]
        ahead[row.key] = row.came
    hold(repr_of(stores) == repr_of(purses))


def fits_so(book, serves, rows, stores):
    """Whether any things are a ledger and the stores that it leaves."""
    return is_so(look_at_ledger, book, serves, rows, stores)


def look_at_trace(faces, thing):
    hold(type(thing) is tuple and len(thing) == 9)
    end, face, key, spoken, number, ask, before, came, children = thing
    hold(type(end) is str and re.fullmatch("[a-z]{1,8}", end))
    served, others = look_at_spoken(faces, spoken, face)
    look_at_key(key, face, number)
    hold(type(children) is tuple and type(before) is tuple)
    for pair in before:
        hold(type(pair) is tuple and len(pair) == 2 and type(pair[0]) is str)
        hold(is_whole(pair[1]) and 0 <= pair[1] <= 10**9)
    for child in children:
        look_at_trace(faces, child)
    came_by = {child[2]: child[7] for child in children}
    row = Row(0, end, face, key, "", spoken, number, ask, came)
    _, taken = look_at_call(served, others, row, dict(before), lambda below: came_by.get(below))
    hold(taken == [child[2] for child in children])
    value = value_of(served, calls(served)[number].ask, ask)
    deeds = calls(served)[number].deeds
    texts = {value[deed[1]] for deed in deeds if deed[0] in ("take", "add")}
    texts |= {value[deed[2]] for deed in deeds if deed[0] == "tell"}
    hold([text for text, _ in before] == sorted(texts))


def explains_so(book, thing):
    """Whether any thing is a trace that explains itself."""
    return is_so(look_at_trace, {(face.name, face.edition): face for face in book}, thing)


def trace_of(model, key):
    """The trace of a key, by a model's ledger; from the row down to those that it asked."""
    at = [row.key for row in model.rows].index(key)
    row = model.rows[at]
    face, others = model.faces_for(row.spoken, row.face)
    came = {other.key: other.came for other in model.rows[:at]}
    store = model.store(row.end, model.rows[:at])
    _, taken = come_so(face, others, key, row.number, row.ask, store, came.get)
    call = calls(face)[row.number]
    value = value_of(face, call.ask, row.ask)
    texts = {value[deed[2 if deed[0] == "tell" else 1]] for deed in call.deeds if deed[0] in ("take", "add", "tell")}
    before = tuple((text, store.get(text, 0)) for text in sorted(texts))
    children = tuple(trace_of(model, below) for below in taken)
    return row.end, row.face, key, row.spoken, row.number, row.ask, before, row.came, children


def states_by_steps(book, name, server, speakers):
    """The states that can be come to, by how many steps that takes at the least, as a list of sets."""
    faces = {face.edition: face for face in book if face.name == name}
    place = [end for end, _ in speakers].index(server)
    talking = {(one, other): do_talk(faces[one], faces[other]) for one in faces for other in faces}
    rounds = [{tuple(edition for _, edition in speakers)}]
    seen = set(rounds[0])
    while rounds[-1]:
        found = set()
        for state in rounds[-1]:
            for at in range(len(state)):
                for edition in faces:
                    after = state[:at] + (edition,) + state[at + 1:]
                    if all(talking[one, after[place]] for spot, one in enumerate(after) if spot != place):
                        found.add(after)
        rounds.append(found - seen)
        seen |= found
    return rounds[:-1]


def shown(model):
    """The text of what a model has written down."""
    def row_of(*words):
        return " ".join(str(word) for word in words)

    def speaks_of(spoken):
        return row_of("speaks", *[part for pair in spoken for part in pair])

    blocks = [[row_of("house", model.room, model.now, model.sent), row_of("waits", *model.waits)]]
    blocks += [[show_face(face)] for _, face in sorted(model.faces.items(), key=lambda item: item[0])]
    for end in model.names:
        rows = [row_of("end", end, model.serves[end] or "-", len(model.stands[end]), "down" if end in model.down else "up")]
        rows.append(speaks_of(model.speaks(end)))
        for stand in model.stands[end]:
            if stand[0] == "done":
                rows.append(row_of("told", *stand[:4], *stand[4]))
            else:
                rows.append(row_of("told", *(("lost",) if stand == ("open",) else stand)))
        rows += [f"holds {many} {text}" for text, many in sorted(model.store(end).items())]
        blocks.append(rows)
    for row in model.rows:
        came = row_of("done", *row.came[1]) if row.came[0] == "done" else row_of(*row.came)
        first = row_of("row", row.tick, row.end, row.key, row.sender, row.number)
        blocks.append([first, speaks_of(row.spoken), row_of("ask", *row.ask), came])
    return "\n\n".join("\n".join(block) for block in blocks)


NUMBER = "(?:0|[1-9][0-9]{0,29})"
NAME = "[a-z]{1,8}"
SPEAKS = f"speaks(?: {NAME} {NUMBER}){{1,4}}"
FIRST = re.compile(f"house {NUMBER} {NUMBER} {NUMBER}\nwaits(?: {NUMBER}){{1,8}}")
END = re.compile(
    f"end {NAME} (?:{NAME}|-) {NUMBER} (?:up|down)\n{SPEAKS}"
    f"(?:\ntold (?:late|lost|fault {NAME}|done {NAME} {NUMBER} {NUMBER}(?: {NUMBER})*))*"
    f"(?:\nholds {NUMBER} [ -~]*)*"
)
ROW = re.compile(
    f"row {NUMBER} {NAME} [a-z0-9.]+ {NAME} {NUMBER}\n{SPEAKS}\nask(?: {NUMBER})*\n(?:done(?: {NUMBER})*|fault {NAME})"
)
KEY = re.compile(r"([a-z]{1,8})([1-9][0-9]*)((?:\.[a-z]{1,8}(?:[12]?[1-9]|[123]0))*)")


def pairs_in(line):
    words = line.split(" ")[1:]
    return tuple((words[at], int(words[at + 1])) for at in range(0, len(words), 2))


def look_at_text(text):
    """Look whether a text writes a house: its form by patterns first, then what it tells."""
    hold(type(text) is str)
    blocks = text.split("\n\n")
    hold(FIRST.fullmatch(blocks[0]) and all(blocks))
    words = "".join(block[0:1] for block in blocks[1:])
    hold(re.fullmatch("f{1,12}e{1,5}r*", words))
    faces = [one for one in blocks if one.startswith("f")]
    ends = [one.split("\n") for one in blocks if one.startswith("e")]
    rows = [one for one in blocks if one.startswith("r")]
    hold(all(END.fullmatch("\n".join(end)) for end in ends) and all(ROW.fullmatch(row) for row in rows))
    first, second = blocks[0].split("\n")
    room, clock, _ = map(int, first.split(" ")[1:])
    hold(1 <= room <= 20 and all(1 <= int(wait) <= 100 for wait in second.split(" ")[1:]))
    look_at_house(faces, ends, [row.split("\n") for row in rows], clock)


def look_at_house(texts, ends, rows, clock):
    try:
        book = [read_face(text) for text in texts]
    except NoFace:
        raise Unfit from None
    pairs = [(face.name, face.edition) for face in book]
    hold(pairs == sorted(set(pairs)) and not any(wrong(face) for face in book))
    heads = [end[0].split(" ")[1:] for end in ends]
    names = [head[0] for head in heads]
    hold(names == sorted(set(names)))
    serves = {head[0]: None if head[1] == "-" else head[1] for head in heads}
    speaks = {end: pairs_in(rows_of[1]) for end, rows_of in zip(names, ends)}
    for spoken in speaks.values():
        hold([name for name, _ in spoken] == sorted({name for name, _ in spoken}))
        hold(all(pair in pairs for pair in spoken))
    used = {name for spoken in speaks.values() for name, _ in spoken} | set(filter(None, serves.values()))
    for name in used:
        hold([name in dict(speaks[end]) for end in names if serves[end] == name] == [True])
    hold(can_be_made(book, [(end, serves[end], speaks[end]) for end in names]))
    ledger = [row_in(row, serves) for row in rows]
    stores = {}
    tolds = {}
    for head, lines in zip(heads, ends):
        held = [line.split(" ", 2)[1:] for line in lines[2:] if line.startswith("holds ")]
        hold([text for _, text in held] == sorted({text for _, text in held}))
        stores[head[0]] = {text: int(number) for number, text in held}
        tolds[head[0]] = [line.split(" ")[1:] for line in lines[2:] if line.startswith("told ")]
        hold(len(tolds[head[0]]) == int(head[2]))
    look_at_ledger(book, serves, ledger, stores)
    by_key = {row.key: row for row in map(Row._make, ledger)}
    for row in by_key.values():
        hold(row.tick <= clock)
        parts = KEY.fullmatch(row.key)
        hold(parts and parts[1] in names and int(parts[2]) <= len(tolds[parts[1]]))
        hold(parts[3] or row.sender == parts[1])
    for end in names:
        for at, words in enumerate(tolds[end], 1):
            look_at_told(book, words, by_key.get(f"{end}{at}"))


def row_in(lines, serves):
    _, tick, end, key, sender, number = lines[0].split(" ")
    hold(end in serves)
    ask = tuple(map(int, lines[2].split(" ")[1:]))
    word, *rest = lines[3].split(" ")
    came = (word, rest[0]) if word == "fault" else (word, tuple(map(int, rest)))
    return int(tick), end, serves[end], key, sender, pairs_in(lines[1]), int(number), ask, came


def look_at_told(book, words, row):
    if words[0] == "fault":
        hold(row and row.came == tuple(words))
    elif words[0] == "done":
        name, edition, number, *body = words[1], *map(int, words[2:])
        hold(row and row.came == ("done", tuple(body)) and (row.face, row.number) == (name, number))
        face = [face for face in book if (face.name, face.edition) == (name, edition)]
        hold(face and number in calls(face[0]))
        value_of(face[0], calls(face[0])[number].answer, tuple(body))


def is_text_of_house(text):
    """Whether any thing is a text that writes a house."""
    return is_so(look_at_text, text)
