"""The texts of programs."""

from lastingrun.reading import Reader
from lastingrun.writing import program_lines


def read(text):
    """The PROGRAM that this text has. Raises BadText(at)."""
    return Reader(text).program()


def write(program):
    """The text of a PROGRAM, with each statement on a line of its own."""
    return "\n".join(program_lines(program))
