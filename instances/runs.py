"""Runs of uses: their values and their instances."""

from instances.outcomes import outcome
from instances.tables import cases_by_name, check_table, check_use


def run(table, use):
    """What the run of the use tells: ("value", TERM), ("none", USE), ("two", USE), ("round", USE) or ("great",)."""
    check_table(table)
    check_use(table, use)
    return outcome(cases_by_name(table), use)[0]


def instances(table, use):
    """The instances of the use, triples (USE, I, TERM) in the order in which the values are found; None without one."""
    check_table(table)
    check_use(table, use)
    answer, found = outcome(cases_by_name(table), use)
    return found if answer[0] == "value" else None
