"""What ends do: they ask, work off their letters, and send again what isn't answered (21, 23 to 25)."""

from facehouse.books import faces_spoken
from facehouse.ends import OpenAsk, Work
from facehouse.errors import NoName, NoValue
from facehouse.letters import key_above, key_below, key_of
from facehouse.post import carry_letter, send_ask, send_like, send_row
from facehouse.reckoning import came_of, reckon
from facehouse.values import is_value
from facehouse.wire import read_text, written


def ask_by_hand(house, end, face, number, value):
    """Let an end that is up ask; the key. NoName of the face, NoCall or NoValue, of any things."""
    if not isinstance(face, str) or face not in end.editions or face == end.serves:
        raise NoName(face)
    spoken = house.editions[(face, end.editions[face])]
    call = spoken.call_of(number)
    if not is_value(spoken, call[2], value):
        raise NoValue("this is no value of the call's ask")
    key = key_of(end.name, len(end.stands) + 1)
    end.stands[key] = ("open",)
    open_ask(house, end, key, (face, number, value))
    return key


def open_ask(house, end, key, asked):
    """Open an ask, told as (face, number, value), under a key, and send it."""
    face, number, value = asked
    spoken = house.editions[(face, end.editions[face])]
    body = written(spoken, spoken.call_of(number)[2], value)
    end.asks[key] = OpenAsk(send_ask(house, end, key, face, number, body), house.ticks)


def work_letter(house, end):
    """Let an end work off the first letter of its queue; what that comes to."""
    letter = end.letters.pop(0)
    if letter.way == "ask":
        return take_ask(house, end, letter)
    return take_answer(house, end, letter)


def take_ask(house, end, letter):
    """Begin a work for an ask, where it isn't done or begun already."""
    if letter.key in end.rows_done:
        send_row(house, end.rows_done[letter.key], letter.sender)
        return "again"
    if letter.key in end.begun:
        return "busy"
    end.begun[letter.key] = Work(letter)
    return go_on(house, end, letter.key)


def take_answer(house, end, letter):
    """Close the ask that an answer or a fault is for, where it is open, and tell who asked."""
    if letter.key not in end.asks:
        return "old"
    del end.asks[letter.key]
    above = key_above(letter.key)
    if above is None:
        end.stands[letter.key] = stand_by(end, letter)
        return "told"
    work = end.begun[above]
    work.kept[letter.key] = letter
    return go_on(house, end, above)


def stand_by(end, letter):
    """How a key stands by the answer or fault that came; an answer with the edition by which it is read."""
    if letter.way == "fault":
        return "fault", read_text(letter.body)
    return "done", letter.face, end.editions[letter.face], letter.call, letter.body


def came_by(letter):
    """What came by an answer or a fault, as rows of the ledger tell it."""
    if letter.way == "fault":
        return "fault", read_text(letter.body)
    return "done", letter.body


def go_on(house, end, key):
    """Let a work go on: it asks once more, or is done."""
    work = end.begun[key]
    number = work.letter.call
    face, spoken = faces_spoken(house.editions, end.spoken(), end.serves)
    came = {below: came_by(work.kept[below]) for below in work.kept}
    result, taken = reckon(face, spoken, key, number, work.letter.body, end.held, came)
    if result[0] == "ask":
        open_ask(house, end, key_below(key, result[1], result[2]), result[1:])
        return "asked"
    if result[0] == "done":
        end.held = result[2]
    finish(house, end, work.letter, came_of(face, number, result))
    return result[0]


def finish(house, end, letter, came):
    """Write down what came of a work, and send it to who asked."""
    row = (house.ticks, end.name, end.serves, letter.key, letter.sender, end.spoken(), letter.call, letter.body, came)
    house.rows.append(row)
    end.rows_done[letter.key] = row
    del end.begun[letter.key]
    send_row(house, row, letter.sender)


def pass_tick(house):
    """Let a tick pass; the clock."""
    house.ticks += 1
    for name in sorted(house.ends):
        end = house.ends[name]
        # An end that is down has no open asks.
        for key in list(end.asks):
            wait_on(house, end, key)
    return house.ticks


def wait_on(house, end, key):
    """Send an open ask again, or give it up, where its wait is over."""
    ask = end.asks[key]
    if house.ticks - ask.since < house.waits[ask.sendings - 1]:
        return
    if ask.sendings < len(house.waits):
        send_like(house, ask.letter)
        ask.sendings += 1
        ask.since = house.ticks
    else:
        del end.asks[key]
        give_up(end, key)


def give_up(end, key):
    """Tell who asked that an ask is given up: by hand it is late, a work is no longer begun."""
    above = key_above(key)
    if above is None:
        end.stands[key] = ("late",)
    else:
        del end.begun[above]


def settle_all(house):
    """Work and carry till nothing is left in queues of ends that are up, nor in the net; how many were carried."""
    carried = 0
    work_off(house)
    while house.mail:
        carry_letter(house, min(list(house.mail)))
        carried += 1
        work_off(house)
    return carried


def work_off(house):
    """Let every end work till its queue is empty; ends that are down have an empty one."""
    for name in sorted(house.ends):
        end = house.ends[name]
        while end.letters:
            work_letter(house, end)
