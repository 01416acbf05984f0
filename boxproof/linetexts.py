"""Derivations written as texts, and texts read as the lines of derivations."""

from boxproof.errors import NoLines, NoStatement
from boxproof.rows import is_number, rows_in, runs_in
from boxproof.statements import SMALL, begins_and_goes_on, is_name
from boxproof.texts import read, written


def lines_text(lines):
    return "".join([line_text(line) + "\n" for line in lines])


def line_text(line):
    statement = "" if line[2] is None else written(line[2]) + " "
    refs = "".join([" " + str(ref) for ref in line[3]])
    return "| " * line[0] + statement + "; " + line[1] + refs


def read_lines(text):
    return tuple([read_line(row) for row in rows_in(text)])


def read_line(row):
    told = row.lstrip(" |")
    level = row[:len(row) - len(told)].count("|")
    halves = told.split(";")
    if len(halves) != 2:
        raise NoLines("a row has one ; and no more")
    runs = runs_in(halves[1])
    if len(runs) == 0 or not is_rule(runs[0]):
        raise NoLines("no rule stands behind the ;")
    return (level, runs[0], read_statement(halves[0], runs[0]), tuple([read_ref(run) for run in runs[1:]]))


def is_rule(text):
    return begins_and_goes_on(text, SMALL)


def read_statement(text, rule):
    if rule == "new":
        if text != "":
            raise NoLines("a row of the rule new has no statement")
        return None
    try:
        return read(text)
    except NoStatement as refusal:
        raise NoLines(f"no statement: {text!r}") from refusal


def read_ref(run):
    if is_number(run):
        return int(run)
    if is_name(run):
        return run
    raise NoLines(f"no line's number and no name: {run!r}")
