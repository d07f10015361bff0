"""Letters on their way: sent, carried and doubled (21, 22)."""

from facehouse.basics import is_whole
from facehouse.errors import NoLetter
from facehouse.letters import Letter, letter_like


def send(house, letter):
    """Put a letter, which has the next number, into the net."""
    house.sent = letter.number
    house.mail[letter.number] = letter


def send_like(house, letter):
    """Send a letter like another one; its number."""
    send(house, letter_like(letter, house.sent + 1))
    return house.sent


def send_ask(house, end, key, face, number, body):
    """Send an end's ask to the end that serves the face; the letter."""
    letter = Letter(
        house.sent + 1,
        way="ask",
        sender=end.name,
        goal=house.servers[face],
        key=key,
        face=face,
        edition=end.editions[face],
        call=number,
        body=body,
    )
    send(house, letter)
    return letter


def send_row(house, row, goal):
    """Send what came by a row of the ledger, as it was written then."""
    tick, end, face, key, sender, spoken, number, ask, came = row
    is_fault = came[0] == "fault"
    letter = Letter(
        house.sent + 1,
        way="fault" if is_fault else "answer",
        sender=end,
        goal=goal,
        key=key,
        face=face,
        edition=dict(spoken)[face],
        call=number,
        body=tuple([ord(sign) for sign in came[1]]) if is_fault else came[1],
    )
    send(house, letter)


def letter_in_net(house, number):
    """The letter of this number in the net; NoLetter, of any thing."""
    # Without the first look True would be found as the number 1.
    if not is_whole(number) or number not in house.mail:
        raise NoLetter(number)
    return house.mail[number]


def carry_letter(house, number):
    """Carry a letter to its goal; whether it is queued there, or lost."""
    letter = letter_in_net(house, number)
    goal = house.ends[letter.goal]
    del house.mail[number]
    if not goal.up or len(goal.letters) >= house.room:
        return "lost"
    goal.letters.append(letter)
    return "queued"
