"""Houses as texts: what they have written down, block by block, and read only where it is written just so (32, 33)."""

from facehouse.errors import NoText
from facehouse.facetexts import show_face
from facehouse.housereading import house_in


def show_house(house):
    """The text of what a house has written down."""
    first = [line_of("house", [house.room, house.ticks, house.sent]), line_of("waits", house.waits)]
    blocks = ["\n".join(first)]
    blocks.extend([show_face(house.editions[pair]) for pair in sorted(house.editions)])
    blocks.extend([show_end(house.ends[name]) for name in sorted(house.ends)])
    blocks.extend([show_row(row) for row in house.rows])
    return "\n\n".join(blocks)


def line_of(words, things):
    """Words, and behind them things, with one blank between; where there are no things, the words alone."""
    return " ".join([words] + [str(thing) for thing in things])


def show_speaks(spoken):
    """The line of all editions that an end speaks."""
    return line_of("speaks", [part for pair in spoken for part in pair])


def show_end(end):
    """The block of an end."""
    serves = "-" if end.serves is None else end.serves
    state = "up" if end.up else "down"
    lines = [f"end {end.name} {serves} {len(end.stands)} {state}", show_speaks(end.spoken())]
    lines.extend([show_stand(stand) for stand in list(end.stands.values())])
    lines.extend([f"holds {end.held[text]} {text}" for text in sorted(end.held)])
    return "\n".join(lines)


def show_stand(stand):
    """The line of how a key stands; what is open would be forgotten."""
    if stand[0] == "done":
        return line_of("told done", stand[1:4] + stand[4])
    if stand[0] == "fault":
        return f"told fault {stand[1]}"
    return "told late" if stand[0] == "late" else "told lost"


def show_row(row):
    """The block of a row of the ledger."""
    tick, end, face, key, sender, spoken, number, ask, came = row
    last = f"fault {came[1]}" if came[0] == "fault" else line_of("done", came[1])
    return "\n".join([f"row {tick} {end} {key} {sender} {number}", show_speaks(spoken), line_of("ask", ask), last])


def read_house(text):
    """The house that a text writes; NoText, of any thing that writes none."""
    if not isinstance(text, str):
        raise NoText("a house is read from a text")
    house = house_in(text)
    # Whatever a reader of lines may have passed over is not written so.
    if show_house(house) != text:
        raise NoText("a house is written otherwise")
    return house
