"""Lines of a console that ask for something of its program, and the answers.

Each function reads what stands behind the first word, and refuses what may not stand there by InvalidText."""

from instances.endings import groups, loop
from instances.errors import Unformed, Unsound
from instances.labels import label_of
from instances.readings import read_parts, read_use
from instances.runs import instances, run
from instances.showing import shown, shown_use
from instances.tables import chosen_use, closing, fault, verdict
from instances.units import link, needed, unlike


def read_last_use(told, line):
    """A use, behind which nothing stands."""
    use = read_use(told, line)
    line.end()
    return use


def read_last_name(told, line):
    """A definition's name, behind which nothing stands."""
    name = line.take_one_of(told.templates)
    line.end()
    return name


def read_unit_index(told, line):
    """The index of the unit whose name stands there."""
    return list(told.units).index(line.take_one_of(told.units))


def answer_choose(told, program, line):
    """What a use chooses."""
    answer = verdict(program[0], read_last_use(told, line))
    if answer[0] == "chosen":
        return f"case {answer[1]}"
    return " ".join([answer[0], *[str(index) for index in answer[1:]]])


def answer_run(told, program, line):
    """What the run of a use tells."""
    answer = run(program[0], read_last_use(told, line))
    if answer[0] == "value":
        return "value " + shown(answer[1])
    return " ".join([answer[0], *[shown_use(use) for use in answer[1:]]])


def answer_count(told, program, line):
    """How many instances a use has."""
    found = instances(program[0], read_last_use(told, line))
    return "no value" if found is None else str(len(found))


def answer_label(told, program, line):
    """The label of a use."""
    return label_of(program[0], read_last_use(told, line))


def answer_fault(told, program, line):
    """Whether a definition is sound, or a use that shows that it is not."""
    use = fault(program[0], read_last_name(told, line))
    return "sound" if use is None else "fault " + shown_use(use)


def answer_dead(told, program, line):
    """Whether a case is dead, or a use that chooses it."""
    name = line.take_one_of(told.templates)
    case = line.take_number(0, len(told.templates[name].cases))
    line.end()
    use = chosen_use(program[0], name, case)
    return "dead" if use is None else "chosen " + shown_use(use)


def answer_closing(told, program, line):
    """How many patterns the closing of a definition has."""
    return str(len(closing(program[0], read_last_name(told, line))))


def answer_groups(told, program, line):
    """The groups of definitions."""
    line.end()
    return " ".join([",".join(group) for group in groups(program[0])])


def answer_ending(told, program, line):
    """Whether each use ends, or why that is not so or not told."""
    line.end()
    try:
        found = loop(program[0])
    except Unformed as error:
        return "unformed " + error.given
    except Unsound as error:
        return "unsound " + error.given
    return "ends" if found is None else "round " + shown_use(found[0])


def answer_needed(told, program, line):
    """The cases that are needed for patterns of a definition."""
    name = line.take_one_of(told.templates)
    patterns = read_parts(told, line, told.templates[name].params, "pattern", {})
    line.end()
    found = needed(program[0], name, patterns)
    return " ".join([str(case) for case in found]) if found else "none"


def answer_unlike(told, program, line):
    """Whether two units choose unlike at some use of a definition, and at which."""
    one = read_unit_index(told, line)
    other = read_unit_index(told, line)
    use = unlike(program, one, other, read_last_name(told, line))
    return "alike" if use is None else "unlike " + shown_use(use)


def answer_link(told, program, line):
    """What linking tells."""
    line.end()
    names = list(told.units)
    answer = link(program)
    if answer[0] == "linked":
        return f"linked {len(answer[1])}"
    if answer[0] == "stops":
        return f"stops {names[answer[1]]} {answer[2]}"
    return f"clash {names[answer[1]]} {names[answer[2]]} {shown_use(answer[3])}"


ANSWERS = {
    "choose": answer_choose,
    "run": answer_run,
    "count": answer_count,
    "label": answer_label,
    "fault": answer_fault,
    "dead": answer_dead,
    "closing": answer_closing,
    "groups": answer_groups,
    "ending": answer_ending,
    "needed": answer_needed,
    "unlike": answer_unlike,
    "link": answer_link,
}


def is_asking_word(word):
    """Whether a line that begins with this word asks for something of the program."""
    return word in ANSWERS


def answered(told, program, line):
    """The answer to the line; raises InvalidText where a word may not stand."""
    answer = ANSWERS[line.take()]
    return answer(told, program, line)
