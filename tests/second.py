"""Talk, deeds and whole houses once more, for the tests: a second reckoning, in another way than the program's."""

import collections
import itertools

from tests.reference import Refused, body_of, pairs_that_read, value_of

PLAIN = {"whole", "truth", "text", ("list", "whole"), ("list", "truth"), ("list", "text")}
Mail = collections.namedtuple("Mail", "number way sender goal key face edition call body")
Call = collections.namedtuple("Call", "number name ask answer deeds")
Row = collections.namedtuple("Row", "tick end face key sender spoken number ask came")


def calls(face):
    """The calls of a face by their numbers."""
    return {call[0]: Call(*call) for call in face.calls}


def fields(face, record):
    """The fields of a record by their names."""
    return {name: (kind, need) for _, name, kind, need in dict(face.records)[record]}


def do_talk(asker, server):
    """Whether an asker's edition talks with a server's."""
    asking, serving = calls(asker), calls(server)
    asks, answers = pairs_that_read(server, asker), pairs_that_read(asker, server)
    return all(
        number in serving
        and (serving[number].ask, asking[number].ask) in asks
        and (asking[number].answer, serving[number].answer) in answers
        for number in asking
    )


def among(face, spoken):
    """What is wrong where a face asks of spoken ones."""
    faces = {other.name: other for other in spoken}
    found = set()
    for call in calls(face).values():
        asked = None
        for place, deed in enumerate(call.deeds):
            if deed[0] == "ask":
                named = {c.name: c for c in calls(faces[deed[1]]).values()} if deed[1] in faces else {}
                asked = (faces[deed[1]], named[deed[2]]) if deed[2] in named else None
                if asked is None:
                    found.add(("nobody", call.name, place))
                    continue
                own = fields(face, call.ask)
                for name, (kind, need) in fields(asked[0], asked[1].ask).items():
                    if need == "must" and not (kind in PLAIN and own.get(name) == (kind, "must")):
                        found.add(("asked", call.name, place, name))
            elif deed[0] == "get":
                theirs = fields(asked[0], asked[1].answer) if asked else {}
                kind, need = theirs.get(deed[2], (None, None))
                if need != "must" or kind not in PLAIN or fields(face, call.answer)[deed[1]][0] != kind:
                    found.add(("got", call.name, place))
    return sorted(found)


def steps_of(face, spoken, number, value, store):
    """A call as a generator: it yields what it asks, takes what that came to, and returns its outcome."""
    call = calls(face)[number]
    faces = {other.name: other for other in spoken}
    purse = collections.Counter(store)
    answer, last = {}, None
    for deed in call.deeds:
        match deed:
            case ("take", text, many, word):
                if purse[value[text]] < value[many]:
                    return "fault", word
                purse[value[text]] -= value[many]
            case ("add", text, many):
                if purse[value[text]] + value[many] > 10**9:
                    return "fault", "great"
                purse[value[text]] += value[many]
            case ("tell", goal, text):
                answer[goal] = purse[value[text]]
            case ("copy", goal, field):
                if field in value:
                    answer[goal] = value[field]
            case ("ask", name, called):
                theirs = [c for c in calls(faces[name]).values() if c.name == called][0]
                own = fields(face, call.ask)
                wanted = {}
                for field, (kind, _) in fields(faces[name], theirs.ask).items():
                    if field in value and kind in PLAIN and own[field][0] == kind:
                        wanted[field] = value[field]
                last = yield name, theirs.number, wanted
                if last[0] == "fault":
                    return last
            case ("get", goal, field):
                answer[goal] = last[1][field]
    return "done", answer, {text: many for text, many in purse.items() if many}


def outcome_of(face, spoken, number, value, store, answers):
    """The outcome of a call, as the program is to tell it."""
    going = steps_of(face, spoken, number, value, store)
    try:
        wanted = next(going)
        for answer in answers:
            wanted = going.send(answer)
    except StopIteration as end:
        return end.value
    return ("ask",) + wanted


def come_so(face, spoken, key, number, body, store, answer_of):
    """What a call comes to from bodies: the outcome, and the keys taken; answer_of tells what came, or None."""
    value = value_of(face, calls(face)[number].ask, body)
    faces = {other.name: other for other in spoken}
    going = steps_of(face, spoken, number, value, store)
    taken = []
    try:
        wanted = next(going)
        while True:
            below = f"{key}.{wanted[0]}{wanted[1]}"
            came = answer_of(below)
            if came is None:
                return ("ask",) + wanted, taken
            taken.append(below)
            if came[0] == "done":
                other = faces[wanted[0]]
                came = ("done", value_of(other, calls(other)[wanted[1]].answer, came[1]))
            wanted = going.send(came)
    except StopIteration as end:
        return end.value, taken


def rings(followers):
    """The names of all faces that are in a ring."""
    behind = {name: set(others) for name, others in followers.items()}
    for middle, first, last in itertools.product(behind, behind, behind):
        if middle in behind[first] and last in behind[middle]:
            behind[first].add(last)
    return {name for name in behind if name in behind[name]}


class Refusal(Exception):
    """What a house is to refuse: the name of the class, and its field."""

    def __init__(self, word, field=None):
        super().__init__(word, field)
        self.word = word
        self.field = field


class Model:
    """A house once more: stores aren't kept, but come of the ledger; letters are plain tuples."""

    def __init__(self, book, ends, room=6, waits=(1, 2, 4, 8)):
        self.faces = {(face.name, face.edition): face for face in book}
        self.names = [end for end, _, _ in ends]
        self.serves = {end: serves for end, serves, _ in ends}
        self.servers = {serves: end for end, serves, _ in ends if serves}
        self.editions = {end: dict(speaks) for end, _, speaks in ends}
        self.down = set()
        self.queues = {end: [] for end in self.names}
        self.pending = {end: [] for end in self.names}
        self.jobs = {end: [] for end in self.names}
        self.stands = {end: [] for end in self.names}
        self.mails = []
        self.sent = 0
        self.now = 0
        self.rows = []
        self.room = room
        self.waits = waits

    # Questions.

    def speaks(self, end):
        return tuple(sorted(self.editions[end].items()))

    def face_of(self, end, name):
        return self.faces[name, self.editions[end][name]]

    def faces_for(self, spoken, name):
        faces = [self.faces[pair] for pair in spoken]
        return [face for face in faces if face.name == name][0], tuple(face for face in faces if face.name != name)

    def store(self, end, rows=None):
        """The store that the end's rows come to: what was added, less what was taken."""
        purse = collections.Counter()
        for row in self.rows if rows is None else rows:
            if row.end == end and row.came[0] == "done":
                face, _ = self.faces_for(row.spoken, row.face)
                call = calls(face)[row.number]
                value = value_of(face, call.ask, row.ask)
                for deed in call.deeds:
                    if deed[0] in ("take", "add"):
                        purse[value[deed[1]]] += value[deed[2]] * (1 if deed[0] == "add" else -1)
        return {text: many for text, many in purse.items() if many}

    def told(self, key):
        for end in self.names:
            for at, stand in enumerate(self.stands[end], 1):
                if key == f"{end}{at}":
                    if stand[0] == "done":
                        _, face, edition, call, body = stand
                        read_by = self.faces[face, edition]
                        return "done", value_of(read_by, calls(read_by)[call].answer, body)
                    return stand
        raise Refusal("NoKey", key)

    def state(self):
        """All that the questions of a house tell."""
        keys = [f"{end}{at}" for end in self.names for at in range(1, len(self.stands[end]) + 1)]
        return {
            "told": {key: self.told(key) for key in keys},
            "up": {end: end not in self.down for end in self.names},
            "store": {end: self.store(end) for end in self.names},
            "queue": {end: [tuple(mail) for mail in self.queues[end]] for end in self.names},
            "asks": {end: [ask["mail"].key for ask in self.pending[end]] for end in self.names},
            "works": {end: [job["mail"].key for job in self.jobs[end]] for end in self.names},
            "speaks": {end: self.speaks(end) for end in self.names},
            "net": [tuple(mail) for mail in sorted(self.mails)],
            "clock": self.now,
            "ledger": [tuple(row) for row in self.rows],
        }

    # Deeds.

    def do(self, deed):
        return getattr(self, "do_" + deed[0])(*deed[1:])

    def known(self, end):
        if type(end) is not str or end not in self.names:
            raise Refusal("NoName", end)

    def standing(self, end):
        self.known(end)
        if end in self.down:
            raise Refusal("Down", end)

    def post(self, *parts):
        self.sent += 1
        self.mails.append(Mail(self.sent, *parts))
        return self.mails[-1]

    def in_net(self, number):
        found = [mail for mail in self.mails if type(number) is int and mail.number == number]
        if not found:
            raise Refusal("NoLetter", number)
        return found[0]

    def do_ask(self, end, name, number, value):
        self.standing(end)
        if type(name) is not str or name not in self.editions[end] or self.serves[end] == name:
            raise Refusal("NoName", name)
        face = self.face_of(end, name)
        if type(number) is not int or number not in calls(face):
            raise Refusal("NoCall", number)
        try:
            body = body_of(face, calls(face)[number].ask, value)
            if repr_of(value_of(face, calls(face)[number].ask, body)) != repr_of(value):
                raise Refusal("NoValue")
        except (Refused, AttributeError, IndexError, KeyError, OverflowError, TypeError, ValueError):
            raise Refusal("NoValue") from None
        self.stands[end].append(("open",))
        key = f"{end}{len(self.stands[end])}"
        self.begin_ask(end, key, name, number, body)
        return key

    def begin_ask(self, end, key, name, number, body):
        mail = self.post("ask", end, self.servers[name], key, name, self.editions[end][name], number, body)
        self.pending[end].append({"mail": mail, "sent": [self.now]})

    def do_carry(self, number):
        mail = self.in_net(number)
        self.mails.remove(mail)
        if mail.goal in self.down or len(self.queues[mail.goal]) == self.room:
            return "lost"
        self.queues[mail.goal].append(mail)
        return "queued"

    def do_double(self, number):
        return self.post(*self.in_net(number)[1:]).number

    def do_lose(self, number):
        self.mails.remove(self.in_net(number))

    def do_work(self, end):
        self.standing(end)
        if not self.queues[end]:
            raise Refusal("NoWork", end)
        mail = self.queues[end].pop(0)
        if mail.way == "ask":
            for row in self.rows:
                if row.end == end and row.key == mail.key:
                    self.reply(row, mail.sender)
                    return "again"
            if any(job["mail"].key == mail.key for job in self.jobs[end]):
                return "busy"
            self.jobs[end].append({"mail": mail, "kept": {}})
            return self.advance(end, mail.key)
        mine = [ask for ask in self.pending[end] if ask["mail"].key == mail.key]
        if not mine:
            return "old"
        self.pending[end].remove(mine[0])
        if "." not in mail.key:
            word = "".join(map(chr, mail.body))
            stand = ("done", mail.face, self.editions[end][mail.face], mail.call, mail.body)
            self.stands[end][int(mail.key[len(end):]) - 1] = ("fault", word) if mail.way == "fault" else stand
            return "told"
        above = mail.key[:mail.key.rindex(".")]
        for job in self.jobs[end]:
            if job["mail"].key == above:
                job["kept"][mail.key] = mail
        return self.advance(end, above)

    def advance(self, end, key):
        job = [job for job in self.jobs[end] if job["mail"].key == key][0]
        mail = job["mail"]
        face, others = self.faces_for(self.speaks(end), self.serves[end])

        def answer_of(below):
            if below not in job["kept"]:
                return None
            kept = job["kept"][below]
            return ("fault", "".join(map(chr, kept.body))) if kept.way == "fault" else ("done", kept.body)

        result, _ = come_so(face, others, key, mail.call, mail.body, self.store(end), answer_of)
        if result[0] == "ask":
            _, name, number, value = result
            asked = self.face_of(end, name)
            body = body_of(asked, calls(asked)[number].ask, value)
            self.begin_ask(end, f"{key}.{name}{number}", name, number, body)
            return "asked"
        came = result if result[0] == "fault" else ("done", body_of(face, calls(face)[mail.call].answer, result[1]))
        self.rows.append(
            Row(self.now, end, face.name, key, mail.sender, self.speaks(end), mail.call, mail.body, came)
        )
        self.jobs[end].remove(job)
        self.reply(self.rows[-1], mail.sender)
        return result[0]

    def reply(self, row, goal):
        way = "answer" if row.came[0] == "done" else "fault"
        body = row.came[1] if way == "answer" else tuple(row.came[1].encode("ascii"))
        self.post(way, row.end, goal, row.key, row.face, dict(row.spoken)[row.face], row.number, body)

    def do_tick(self):
        self.now += 1
        for end in self.names:
            for ask in list(self.pending[end]):
                if self.now - ask["sent"][-1] != self.waits[len(ask["sent"]) - 1]:
                    continue
                if len(ask["sent"]) < len(self.waits):
                    self.post(*ask["mail"][1:])
                    ask["sent"].append(self.now)
                    continue
                self.pending[end].remove(ask)
                key = ask["mail"].key
                if "." in key:
                    above = key[:key.rindex(".")]
                    self.jobs[end] = [job for job in self.jobs[end] if job["mail"].key != above]
                else:
                    self.stands[end][int(key[len(end):]) - 1] = ("late",)
        return self.now

    def do_fall(self, end):
        self.standing(end)
        self.down.add(end)
        self.queues[end], self.pending[end], self.jobs[end] = [], [], []
        self.stands[end] = [("lost",) if stand == ("open",) else stand for stand in self.stands[end]]

    def do_rise(self, end):
        self.known(end)
        if end not in self.down:
            raise Refusal("Up", end)
        self.down.remove(end)

    def do_settle(self):
        carried = 0
        while True:
            for end in self.names:
                while self.queues[end]:
                    self.do_work(end)
            if not self.mails:
                return carried
            self.do_carry(min(self.mails).number)
            carried += 1

    def do_roll(self, end, name, edition):
        self.known(end)
        why = self.why_not(end, name, edition)
        if why:
            raise Refusal("NoRoll", why)
        self.editions[end][name] = edition

    def fall_silent(self):
        """Lose all letters, and let all ends that are up fall and rise: as a house is that was written and read."""
        self.mails.clear()
        for end in self.names:
            if end not in self.down:
                self.do_fall(end)
                self.do_rise(end)

    # Why an end isn't rolled.

    def why_not(self, end, name, edition):
        if type(name) is not str or name not in self.editions[end]:
            return ("edition",)
        if type(edition) is not int or (name, edition) not in self.faces:
            return ("edition",)
        goal = self.faces[name, edition]
        then = {other: dict(self.editions[other]) for other in self.names}
        then[end][name] = edition
        followers = {}
        for served, server in self.servers.items():
            face, others = self.faces_for(tuple(sorted(then[server].items())), served)
            followers[served] = {deed[1] for call in face.calls for deed in call[4] if deed[0] == "ask"}
            if server == end and among(face, others):
                return ("among",)
        if rings(followers):
            return "ring", min(rings(followers))
        server = self.servers[name]
        partners = [other for other in self.names if name in then[other] and other != end] if end == server else [server]
        for other in partners:
            pair = (other, end) if end == server else (end, other)
            if not do_talk(*[self.faces[name, then[one][name]] for one in pair]):
                return "talk", other
        bad = [mail.number for mail in self.mails + self.queues[end]
               if (mail.goal, mail.face) == (end, name) and not self.fine(end, goal, mail)]
        if bad:
            return "letter", min(bad)
        bad = {mail.key for mail in self.watched(end, name) if not self.fine(end, goal, mail)}
        if end != server:
            bad |= {ask["mail"].key for ask in self.pending[end]
                    if ask["mail"].face == name and ask["mail"].call not in calls(goal)}
        return ("key", min(bad)) if bad else None

    def watched(self, end, name):
        """All that must be read behind a rolling, besides the letters on their way, as mails."""
        if self.servers[name] == end:
            for other in self.names:
                yield from [ask["mail"] for ask in self.pending[other] if ask["mail"].face == name]
            yield from [job["mail"] for job in self.jobs[end]]
            return
        for job in self.jobs[end]:
            yield from [mail for mail in job["kept"].values() if mail.face == name]
        for row in self.rows:
            if row.sender == end and row.face == name and row.came[0] == "done":
                yield Mail(0, "answer", row.end, end, row.key, name, 0, row.number, row.came[1])

    def fine(self, end, face, mail):
        """Whether an end reads a mail by a face, or needn't."""
        is_open = mail.key in [ask["mail"].key for ask in self.pending[end]]
        above = mail.key.rpartition(".")[0]
        is_done = above in [row.key for row in self.rows if row.end == end]
        if mail.way == "fault" or (mail.way == "answer" and not is_open and (not above or is_done)):
            return True
        if mail.call not in calls(face):
            return mail.way == "answer" and not is_open
        call = calls(face)[mail.call]
        try:
            value_of(face, call.ask if mail.way == "ask" else call.answer, mail.body)
        except Refused:
            return False
        return True


def repr_of(value):
    """A text that two things share just where they are like, truths apart from numbers, whatever a dict's order."""
    if type(value) is dict:
        return "{" + ",".join(sorted(f"{key!r}:{repr_of(one)}" for key, one in value.items())) + "}"
    if type(value) in (tuple, list):
        return type(value).__name__ + "(" + ",".join(map(repr_of, value)) + ")"
    return repr(value)
