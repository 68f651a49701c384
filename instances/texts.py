"""Texts of programs: programs shown, and read."""

from instances.errors import InvalidText
from instances.readings import told_by
from instances.showing import rows_of_program
from instances.units import check_program, is_program
from instances.words import rows_of


def show_program(program):
    """The text of the program."""
    check_program(program)
    return "\n".join(rows_of_program(program))


def read_program(text):
    """The program of the text."""
    if not isinstance(text, str):
        raise InvalidText(None)
    program = told_by(text).program()
    # Each row may stand where it does, so what is wrong now hangs on rows below it.
    if not is_program(program):
        raise InvalidText((len(rows_of(text)), 0))
    return program
