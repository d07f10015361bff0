"""Faces: what may be asked of an end, what comes back, and what each call does (4, 5)."""

from facehouse.basics import is_whole
from facehouse.errors import NoCall, NoName


class Face:
    """One edition of a face. It never changes, and all its parts are tuples."""

    def __init__(self, name, edition, *, choices=(), records=(), calls=()):
        self.name = name
        self.edition = edition
        self.choices = choices
        self.records = records
        self.calls = calls

    def __eq__(self, other):
        return (
            isinstance(other, Face)
            and self.name == other.name
            and self.edition == other.edition
            and self.choices == other.choices
            and self.records == other.records
            and self.calls == other.calls
        )

    def __repr__(self):
        return f"Face({self.name} {self.edition})"

    def fields_of(self, record):
        """The fields of the record of this name; NoName, of any thing."""
        for name, fields in self.records:
            if name == record:
                return fields
        raise NoName(record)

    def options_of(self, choice):
        """The options of the choice of this name; NoName, of any thing."""
        for name, options in self.choices:
            if name == choice:
                return options
        raise NoName(choice)

    def call_of(self, number):
        """The call of this number; NoCall, of any thing."""
        # Without this True would be found as the number 1.
        if is_whole(number):
            for call in self.calls:
                if call[0] == number:
                    return call
        raise NoCall(number)

    def call_named(self, name):
        """The call of this name; NoName, of any thing."""
        for call in self.calls:
            if call[1] == name:
                return call
        raise NoName(name)

    def call_numbers(self):
        """The numbers of the calls, rising, as a list of the asker's own."""
        return [call[0] for call in self.calls]
