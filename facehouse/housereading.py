"""The house in a text: its blocks read one by one, and held against each other (33).

What stands in another order than told, or twice, or where nothing is told, may be passed over here: it shows where
the house that was read is written anew.
"""

from facehouse.basics import FIGURES, GREATEST_NUMBER, is_name, is_number_text, is_rising
from facehouse.errors import NoBody, NoFace, NoHouse, NoText
from facehouse.facetexts import read_face
from facehouse.house import House
from facehouse.ledger import fits
from facehouse.letters import key_of
from facehouse.lookers import MOST_SPOKEN
from facehouse.wire import read

GREATEST_ROOM = 20
MOST_WAITS = 8
LONGEST_WAIT = 100
MOST_FACES = 12
MOST_ENDS = 5
ROW_LINES = 4


def house_in(text):
    """The house that a text writes; NoText, where it can write none."""
    blocks = [block.split("\n") for block in text.split("\n\n")]
    room, clock, sent, waits = read_first(blocks[0])
    book = tuple([read_face_in(lines) for lines in blocks if lines[0].startswith("face ")])
    ends = [read_end(lines) for lines in blocks if lines[0].startswith("end ")]
    house = make_house(book, tuple([end[:3] for end in ends]), room, waits)
    house.ticks = clock
    house.sent = sent
    for name, serves, speaks, is_up, stands, held in ends:
        restore_end(house.ends[name], is_up, stands, held)
    rows = [read_row(house, lines) for lines in blocks if lines[0].startswith("row ")]
    check_ledger(house, book, rows)
    for row in rows:
        house.rows.append(row)
        end = house.ends[row[1]]
        end.rows_done[row[3]] = row
    check_stands(house)
    return house


def demand(holds, why):
    """Refuse the text where something that it must have doesn't hold."""
    if not holds:
        raise NoText(why)


def read_number(word):
    """The number that a word writes."""
    demand(is_number_text(word), "a number has figures, no nought ahead")
    return int(word)


def words_behind(line, word):
    """The words of a line behind the one that it begins with."""
    words = line.split(" ")
    demand(words[0] == word, "a line begins with its word")
    return words[1:]


def read_numbers(line, word):
    """The numbers of a line behind the word that it begins with."""
    return tuple([read_number(other) for other in words_behind(line, word)])


def read_first(lines):
    """Room, clock, how many letters were numbered, and waits, from the first block."""
    demand(len(lines) == 2, "the first block has two lines")
    numbers = read_numbers(lines[0], "house")
    demand(len(numbers) == 3, "a house has its room, its clock and a count of letters")
    demand(1 <= numbers[0] <= GREATEST_ROOM, "there is room for 1 to 20 letters")
    waits = read_numbers(lines[1], "waits")
    demand(1 <= len(waits) <= MOST_WAITS, "a house has one to eight waits")
    demand(all([1 <= wait <= LONGEST_WAIT for wait in waits]), "waits are from 1 to 100")
    return numbers + (waits,)


def read_face_in(lines):
    """The face that a block writes."""
    try:
        return read_face("\n".join(lines))
    except NoFace:
        raise NoText("a block of the book writes no face") from None


def read_end(lines):
    """An end, from its block: name, what it serves and speaks, whether it is up, how its keys stand, its store."""
    words = words_behind(lines[0], "end")
    demand(len(words) == 4 and len(lines) >= 2, "an end has its words, and a line of what it speaks")
    name, serves, count, state = words
    demand(is_name(name), "an end has a name")
    demand(state in ("up", "down"), "an end is up or down")
    lines_told = [line for line in lines if line.startswith("told ")]
    stands = {key_of(name, at): read_stand(line) for at, line in enumerate(lines_told, start=1)}
    demand(read_number(count) == len(stands), "an end has a told line for each ask")
    held = dict([read_holds(line) for line in lines if line.startswith("holds ")])
    return name, None if serves == "-" else serves, read_speaks(lines[1]), state == "up", stands, held


def read_speaks(line):
    """The editions that an end speaks, from their line."""
    words = words_behind(line, "speaks")
    demand(len(words) % 2 == 0 and 1 <= len(words) // 2 <= MOST_SPOKEN, "an end speaks one to four faces")
    pairs = tuple([(words[at], read_number(words[at + 1])) for at in range(0, len(words), 2)])
    demand(is_rising([face for face, edition in pairs]), "what an end speaks rises")
    return pairs


def read_stand(line):
    """How a key stands, from its line."""
    words = words_behind(line, "told")
    if words[0] == "done":
        demand(len(words) >= 4, "an answer has a face, an edition and a call")
        numbers = [read_number(word) for word in words[2:]]
        return "done", words[1], numbers[0], numbers[1], tuple(numbers[2:])
    demand(words in (["late"], ["lost"]) or (len(words) == 2 and words[0] == "fault"), "a key stands as told")
    return tuple(words)


def read_holds(line):
    """A text of the store and its number, from their line; the text may have blanks, too."""
    word, blank, rest = line.partition(" ")
    number, gap, text = rest.partition(" ")
    return text, read_number(number)


def make_house(book, ends, room, waits):
    """The house of a book and ends, with nothing done in it yet."""
    demand(1 <= len(book) <= MOST_FACES, "a book has one to twelve faces")
    demand(is_rising([(face.name, face.edition) for face in book]), "faces rise by names and editions")
    demand(1 <= len(ends) <= MOST_ENDS, "a house has one to five ends")
    demand(is_rising([end[0] for end in ends]), "ends rise by names")
    try:
        return House(book, ends, room=room, waits=waits)
    except NoHouse:
        raise NoText("no house can be made of this") from None


def restore_end(end, is_up, stands, held):
    """Give an end what it has written down, but for its part of the ledger."""
    end.up = is_up
    end.stands = stands
    end.held = held


def read_row(house, lines):
    """A row of the ledger, from its block."""
    words = words_behind(lines[0], "row")
    demand(len(words) == 5 and len(lines) == ROW_LINES, "a row has its words, and three more lines")
    tick, end, key, sender, number = words
    demand(end in house.ends, "a row is of an end")
    face = house.ends[end].serves
    spoken = read_speaks(lines[1])
    ask = read_numbers(lines[2], "ask")
    return read_number(tick), end, face, key, sender, spoken, read_number(number), ask, read_came(lines[3])


def read_came(line):
    """What came of a row, from its line."""
    words = line.split(" ")
    if words[0] == "fault":
        demand(len(words) == 2, "a fault has a word")
        return "fault", words[1]
    return "done", read_numbers(line, "done")


def check_ledger(house, book, rows):
    """Refuse rows that don't explain each other and the stores, that are ahead of the clock, or have other keys."""
    serves = {name: house.ends[name].serves for name in house.ends}
    stores = {name: house.ends[name].held for name in house.ends}
    demand(fits(book, serves, rows, stores), "the ledger explains all stores")
    for row in rows:
        demand(row[0] <= house.ticks, "no row is ahead of the clock")
        check_key(house, row[3], row[4])


def check_key(house, key, sender):
    """Refuse a key of the ledger that can't have been asked, or not by this sender."""
    parts = [split_part(part) for part in key.split(".")]
    end, number = parts[0]
    demand(end in house.ends and 1 <= number <= len(house.ends[end].stands), "a key begins with an ask of an end")
    for name, below in parts[1:]:
        demand(is_name(name) and 1 <= below <= GREATEST_NUMBER, "behind each dot stand a face and a call")
    demand(len(parts) > 1 or sender == end, "who asked by hand is in the key")


def split_part(part):
    """What stands ahead of the number at the end of a key's part, and the number."""
    name = part.rstrip(FIGURES)
    return name, read_number(part[len(name):])


def check_stands(house):
    """Refuse keys that are told done or fault otherwise than the ledger tells of them."""
    rows = {row[3]: row for row in house.rows}
    for name in house.ends:
        stands = house.ends[name].stands
        for key in stands:
            if stands[key][0] in ("done", "fault"):
                demand(key in rows, "what is told is in the ledger")
                check_stand(house, stands[key], rows[key])


def check_stand(house, stand, row):
    """Refuse what is told of a key otherwise than by its row, or what can't have been read."""
    if stand[0] == "fault":
        demand(row[8] == stand, "a fault is told as it came")
        return
    word, name, edition, number, body = stand
    demand((row[2], row[6], row[8]) == (name, number, ("done", body)), "an answer is told as it came")
    demand((name, edition) in house.editions, "an answer is read by an edition of the book")
    face = house.editions[(name, edition)]
    demand(number in face.call_numbers(), "an answer is read by a call of the edition")
    try:
        read(face, face.call_of(number)[3], body)
    except NoBody:
        raise NoText("an answer is read by the edition") from None
