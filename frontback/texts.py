"""Programs as texts."""

from frontback.errors import InvalidText
from frontback.rows import check_program, is_program


def write(program):
    """Return the text of the program."""
    check_program(program)
    return "; ".join([f"{verb} {word}" for verb, word in program])


def read(text):
    """Return the program that has this text."""
    if not isinstance(text, str):
        raise InvalidText("a text is a string")
    program = parts_of(text)
    if not is_program(program):
        raise InvalidText("a text has operations such as 'front x', separated by a semicolon and a blank")
    return program


def parts_of(text):
    """Return the list of the parts of a text, each as the tuple of what its blanks separate."""
    # An empty text has no part, but split would find an empty one in it.
    if text == "":
        return []
    return [tuple(part.split(" ")) for part in text.split("; ")]
