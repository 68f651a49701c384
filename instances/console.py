"""A console: rows of a program that are told line by line, and questions about it."""

from instances.asking import answered, is_asking_word
from instances.conventions import is_tuple
from instances.errors import InvalidLines, InvalidText
from instances.readings import is_row_word, told_by
from instances.texts import read_program
from instances.units import is_program
from instances.words import Line, rows_of, words_of

MOST_EARLIER = 20
MOST_LINES = 60
NOT_UNDERSTOOD = "not understood"


def fresh_console():
    """The console without a row."""
    return ("", ())


def said(console, line):
    """The console behind the line, and the answer."""
    if not isinstance(line, str):
        raise InvalidLines(None)
    words = [] if "\n" in line else words_of(line)
    if words == ["back"]:
        return back(console)
    if words and is_row_word(words[0]):
        return with_row(console, words)
    return console, answer_to(console[0], words)


def told_all(console, lines):
    """The console behind all lines, and the tuple of the answers."""
    if not is_tuple(lines, 0, MOST_LINES):
        raise InvalidLines(None)
    for index, line in enumerate(lines):
        if not isinstance(line, str):
            raise InvalidLines(index)
    answers = []
    for line in lines:
        console, answer = said(console, line)
        answers.append(answer)
    return console, tuple(answers)


def back(console):
    """The console with the last earlier state, and the answer."""
    state, earlier = console
    if not earlier:
        return console, "nothing there"
    return (earlier[-1], earlier[:-1]), "back"


def with_row(console, words):
    """The console with a row of these words, if it may stand there, and the answer."""
    state, earlier = console
    row = " ".join(words)
    text = row if state == "" else state + "\n" + row
    try:
        told_by(text)
    except InvalidText as error:
        return console, f"not taken at {error.index[1]}"
    kept = (*earlier, state)
    return (text, kept[-MOST_EARLIER:]), "taken"


def answer_to(state, words):
    """The answer to a line of these words that leaves the console as it is."""
    if words == ["rows"]:
        return str(len(rows_of(state)))
    if words == ["show"]:
        return wholeness(state)
    if words and is_asking_word(words[0]):
        return answer_of_program(state, words)
    return NOT_UNDERSTOOD


def wholeness(state):
    """Whether the state is a program's text, or where it is refused."""
    try:
        read_program(state)
    except InvalidText as error:
        return f"not whole at {error.index[0]} {error.index[1]}"
    return "whole"


def answer_of_program(state, words):
    """The answer to a line that asks for something of the program of the state."""
    told = told_by(state)
    program = told.program()
    if not is_program(program):
        return "not whole"
    try:
        return answered(told, program, Line(0, words))
    except InvalidText:
        return NOT_UNDERSTOOD
