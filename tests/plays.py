"""Books and ends for the tests, some by dice, and long rows of deeds that are played on a house and its model."""

from facehouse.facetexts import read_face, show_face
from facehouse.house import House
from facehouse.rights import wrong
from tests.reference import some_value
from tests.second import Model, Refusal, among, calls, do_talk, rings

BANK = """\
face bank 1
record reply
 1 left whole must
 2 mark whole may
record request
 1 who text must
 2 sum whole must
 3 memo text may
call 1 put request reply
 add who sum
 tell left who
call 2 draw request reply
 take who sum poor
 tell left who
call 3 send request reply
 take who sum poor
 ask post send
 get mark mark
 tell left who"""
POST = """\
face post 1
record note
 1 who text must
 2 sum whole must
record slip
 1 mark whole must
call 1 send note slip
 add who sum
 tell mark who
call 2 look note slip
 tell mark who"""
SHOP = """\
face shop 1
record bill
 1 left whole may
 2 mark whole may
record order
 1 who text must
 2 sum whole must
call 1 buy order bill
 add who sum
 ask bank draw
 get left left
 ask post send
 get mark mark
call 2 gift order bill
 ask bank send
 get left left"""
ENDS = (
    ("ada", None, (("bank", 1), ("shop", 1))),
    ("bob", "bank", (("bank", 1), ("post", 1))),
    ("cyd", "post", (("post", 1),)),
    ("dan", "shop", (("bank", 1), ("post", 1), ("shop", 1))),
    ("eve", None, (("post", 1),)),
)
# Ends for books by dice, some few and some many.
END_SETS = (
    (("ann", None, ("aa",)), ("cat", "aa", ("aa",))),
    (("ann", None, ("bb",)), ("ben", "bb", ("aa", "bb")), ("cat", "aa", ("aa",))),
    (("ann", "cc", ("aa", "bb", "cc")), ("ben", "bb", ("aa", "bb")), ("cat", "aa", ("aa",)), ("dov", None, ("cc",))),
    (
        ("ann", None, ("aa", "cc")), ("ben", "bb", ("aa", "bb")), ("cat", "aa", ("aa", "bb")),
        ("dov", "cc", ("aa", "bb", "cc")), ("eva", None, ("bb", "cc")),
    ),
)
# How often each deed is thrown.
WEIGHTS = {
    "ask": 8, "carry": 35, "work": 35, "double": 4, "lose": 2, "tick": 4, "fall": 1.5, "rise": 10, "roll": 15, "settle": 0.5,
}
ASK_FIELDS = ("who text", "sum whole", "bits list whole", "flag truth", "deep record deep")
ANSWER_FIELDS = ("left whole", "mark whole", "flag truth", "bits list whole", "deep record deep")


def book():
    """Three faces that ask one another: a shop that asks a bank and a post, and the bank the post."""
    return tuple([read_face(text) for text in (BANK, POST, SHOP)])


def house(**more):
    """A house of that book, with five ends."""
    return House(book(), ENDS, **more)


def dice_fields(dice, pool, must):
    """Rows of fields: those of must, which must be there, and others by the throws of dice."""
    rows = []
    for number, field in enumerate(pool, 1):
        name = field.split(" ")[0]
        if name in must:
            rows.append(f" {number} {field} must")
        elif dice.random() < 0.5:
            kind = field.split(" ", 1)[1]
            if dice.random() < 0.2:
                kind = dice.choice(("whole", "truth", "text", "list text"))
            rows.append(f" {number} {name} {kind} {dice.choice(('may', 'may', 'must'))}")
    return rows


def dice_deeds(dice, asked):
    """Deeds by the throws of dice; asked tells which faces may be asked."""
    deeds = []
    for _ in range(dice.randrange(1, 6)):
        word = dice.choice(("take", "add", "add", "tell", "copy", "ask", "ask", "ask", "get", "get"))
        deed = {
            "take": "take who sum poor", "add": "add who sum", "tell": f"tell {dice.choice(('left', 'mark'))} who",
            "copy": f"copy {dice.choice(('flag flag', 'bits bits', 'left sum', 'deep deep'))}",
            "ask": f"ask {dice.choice(asked or ('aa',))} {dice.choice('xyz')}",
            "get": f"get {dice.choice(('left', 'mark', 'flag', 'bits'))} {dice.choice(('left', 'mark', 'flag', 'bits'))}",
        }[word]
        if word != "ask" or asked:
            deeds.append(" " + deed)
    return deeds


def dice_face(dice, name, edition, asked):
    """A right face by the throws of dice."""
    while True:
        rows = [f"face {name} {edition}"]
        rows += ["record deep", f" 1 in {dice.choice(('whole', 'whole', 'truth'))} {dice.choice(('must', 'may'))}"]
        rows += ["record give"] + dice_fields(dice, ANSWER_FIELDS, dice.choice(((), (), ("left",))))
        rows += ["record want"] + dice_fields(dice, ASK_FIELDS, ("who", "sum"))
        numbers = sorted(dice.sample((1, 2, 3, 4), dice.choice((1, 2, 2, 3))))
        names = dice.sample("xyz", len(numbers)) if dice.random() < 0.4 else "xyz"
        for at, number in enumerate(numbers):
            rows += [f"call {number} {names[at]} want give"] + dice_deeds(dice, asked)
        face = read_face("\n".join(rows))
        if not wrong(face):
            return face


def near_face(dice, face, edition, text):
    """A right face like another one, but for its edition and perhaps a line or a word."""
    while True:
        rows = text.split("\n")
        rows[0] = f"face {face.name} {edition}"
        for _ in range(dice.randrange(1, 3)):
            at = dice.randrange(1, len(rows))
            words = rows[at].split(" ")
            if words[-1] in ("must", "may"):
                words[-1] = dice.choice(("must", "may"))
                if dice.random() < 0.4:
                    words[3:-1] = dice.choice(("whole", "truth", "text", "list whole")).split(" ")
                rows[at] = " ".join(words)
            elif dice.random() < 0.5 and words[0] == "":
                del rows[at]
            elif words[0] == "call" and dice.random() < 0.6:
                ends = [place for place in range(at + 1, len(rows)) if rows[place].startswith("call")] + [len(rows)]
                if len(ends) + rows[:at].count("call") > 1 and dice.random() < 0.5:
                    del rows[at:ends[0]]
                else:
                    rows[at] = " ".join([words[0], str(int(words[1]) + dice.choice((0, 3))), *words[2:]])
        try:
            found = read_face("\n".join(rows))
        except ValueError:
            continue
        if found.calls and not wrong(found):
            return found


def toggled_face(dice, name, edition, asked):
    """A right face whose parts are there or not, must or may, by the throws of dice, so that many editions talk."""
    while True:
        rows = [f"face {name} {edition}", "record give", " 1 left whole must"]
        rows += dice.choice(([], [" 2 mark whole may"], [" 2 mark whole must"]))
        rows += ["record want", " 1 who text must", " 2 sum whole must"]
        rows += dice.choice(([], [" 3 flag truth may"], [" 3 flag truth must"]))
        shift = dice.choice((0, 0, 3))
        for number, call in ((1, "x"), (2, "y"), (3, "z")):
            if call == "x" or dice.random() < 0.6:
                deeds = [dice.choice((" add who sum", " take who sum poor", " tell left who"))]
                for other in asked:
                    deeds += [f" ask {other} {dice.choice('xxyz')}"] if dice.random() < 0.7 else []
                if any(deed.startswith(" ask") for deed in deeds):
                    deeds += [dice.choice((" get left left", " get mark mark", " get mark left"))]
                deeds += [" tell left who"] if " get left left" not in deeds and " tell left who" not in deeds else []
                deeds += [" tell mark who"] if " 2 mark whole must" in rows and not "".join(deeds).count("mark") else []
                rows += [f"call {number + (shift if call == 'z' else 0)} {call} want give"] + deeds
        face = read_face("\n".join(rows))
        if not wrong(face):
            return face


def toggled_book(dice):
    """A book of three faces in several editions, as toggled faces are; bb asks aa, cc both, and aa now and then bb."""
    faces = []
    for name, asked in (("aa", ()), ("bb", ("aa",)), ("cc", ("aa", "bb"))):
        for edition in range(1, dice.randrange(4, 6)):
            faces.append(toggled_face(dice, name, edition, ("bb",) if not asked and dice.random() < 0.2 else asked))
    return tuple(faces[:12])


def dice_book(dice):
    """A book of three faces in several editions: bb asks aa, cc asks both, and aa now and then bb."""
    if dice.random() < 0.5:
        return toggled_book(dice)
    faces = []
    for name, asked, many in (("aa", (), 3), ("bb", ("aa",), 3), ("cc", ("aa", "bb"), 3)):
        first = dice_face(dice, name, 1, ("bb",) if not asked and dice.random() < 0.15 else asked)
        faces.append(first)
        for edition in range(2, dice.randrange(2, many + 2)):
            if dice.random() < 0.85:
                faces.append(near_face(dice, first, edition, show_face(first)))
            else:
                faces.append(dice_face(dice, name, edition, asked))
    dice.shuffle(faces)
    return tuple(faces)


def dice_ends(dice, faces):
    """Ends that make a house of a book, or None where throws of dice find none."""
    editions = {name: [face.edition for face in faces if face.name == name] for name in ("aa", "bb", "cc")}
    ends = dice.choices(END_SETS, (1, 3, 3, 2))[0]
    for _ in range(40):
        made = tuple((end, serves, tuple((name, dice.choice(editions[name])) for name in speaks)) for end, serves, speaks in ends)
        if can_be_made(faces, made):
            return made
    return None


def can_be_made(faces, ends):
    """Whether a house can be made, by the second reckoning, of right faces and ends that serve as they should."""
    books = {(face.name, face.edition): face for face in faces}
    served = {serves: books[pair] for _, serves, speaks in ends for pair in speaks if pair[0] == serves}
    for _, serves, speaks in ends:
        for pair in speaks:
            if pair[0] != serves and not do_talk(books[pair], served[pair[0]]):
                return False
        if serves and among(served[serves], [books[pair] for pair in speaks if pair[0] != serves]):
            return False
    return not rings({name: {d[1] for c in face.calls for d in c[4] if d[0] == "ask"} for name, face in served.items()})


def dice_house(dice):
    """A book and ends by the throws of dice, with the house, its model, and both's room and waits."""
    while True:
        faces = dice_book(dice)
        ends = dice_ends(dice, faces)
        if ends is not None:
            room = dice.choice((1, 2, 3, 6))
            waits = dice.choice(((1, 2, 4, 8), (1,), (2, 1), (3, 1, 2)))
            return faces, ends, House(faces, ends, room=room, waits=waits), Model(faces, ends, room, waits)


def dice_value(dice, face, record):
    """A value of a record whose texts and numbers often meet those of others."""
    value = some_value(face, ("record", record), dice, 3)
    if "who" in value and dice.random() < 0.95:
        value["who"] = dice.choice(("", " a", "a", "b", "row 1"))
    if "sum" in value and dice.random() < 0.95:
        value["sum"] = dice.choice((0, 0, 1, 1, 2, 5, 10**9))
    return value


def dice_deed(dice, model):
    """A deed for a house, one that can be done for the most part, by the throws of dice."""
    word = dice.choices(list(WEIGHTS), list(WEIGHTS.values()))[0]
    if word in ("carry", "double", "lose") and not model.mails and dice.random() < 0.8:
        word = "ask"
    if word == "work" and not any(model.queues.values()) and dice.random() < 0.8:
        word = "ask"
    if word == "rise" and not model.down and dice.random() < 0.8:
        word = "roll"
    end = dice.choice(model.names)
    if word == "ask":
        name = dice.choice(sorted(model.editions[end]))
        if name == model.serves[end] and dice.random() < 0.8:
            return dice_deed(dice, model)
        face = model.face_of(end, name)
        number = dice.choice(sorted(calls(face)))
        return word, end, name, number, dice_value(dice, face, calls(face)[number].ask)
    if word in ("carry", "double", "lose"):
        numbers = [mail.number for mail in model.mails] or [model.sent]
        return word, dice.choice(numbers)
    if word == "roll":
        name = dice.choice(sorted(model.editions[end]))
        return word, end, name, dice.choice([edition for other, edition in model.faces if other == name])
    if word == "work":
        full = [other for other in model.names if model.queues[other]]
        return word, dice.choice(full) if full and dice.random() < 0.9 else end
    if word == "rise" and model.down:
        return word, dice.choice(sorted(model.down))
    return (word,) if word in ("tick", "settle") else (word, end)


def play(dice, made, model, many):
    """Play deeds by the throws of dice on a house and its model; what is refused is passed over."""
    for _ in range(many):
        deed = dice_deed(dice, model)
        made.run([deed], stop=False)
        try:
            model.do(deed)
        except Refusal:
            pass


def plain(letter):
    """A letter as a tuple of its nine parts."""
    return (letter.number, letter.way, letter.sender, letter.goal, letter.key, letter.face, letter.edition, letter.call, letter.body)


def state_of(played, model):
    """All that the questions of a house tell, in the form of its model."""
    names = model.names
    keys = [f"{end}{at}" for end in names for at in range(1, len(model.stands[end]) + 1)]
    return {
        "told": {key: played.told(key) for key in keys},
        "up": {end: played.is_up(end) for end in names},
        "store": {end: played.store(end) for end in names},
        "queue": {end: [plain(letter) for letter in played.queue(end)] for end in names},
        "asks": {end: played.open_asks(end) for end in names},
        "works": {end: played.works(end) for end in names},
        "speaks": {end: played.speaks(end) for end in names},
        "net": [plain(letter) for letter in played.net()],
        "clock": played.clock(),
        "ledger": played.ledger(),
    }
