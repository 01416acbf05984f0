"""Worlds written as texts, and texts read as worlds."""

from boxproof.errors import NoWorld
from boxproof.rows import is_number, rows_in, runs_in
from boxproof.worlds import fit_world


def world_text(world):
    rows = ["things " + str(world[0])]
    for name, thing in world[1]:
        rows.append(name + " is " + str(thing))
    for word, things in world[2]:
        rows.append(" ".join([word] + [str(thing) for thing in things]))
    return "".join([row + "\n" for row in rows])


def read_world(text):
    rows = [runs_in(row) for row in rows_in(text)]
    if len(rows) == 0:
        raise NoWorld("no rows")
    size = read_size(rows[0])
    # A word may be things too, so it is the first row alone that tells the size.
    behind_names = 1
    while behind_names < len(rows) and is_names_row(rows[behind_names]):
        behind_names += 1
    called = tuple([(row[0], read_number(row[2])) for row in rows[1:behind_names]])
    facts = tuple([read_fact(row) for row in rows[behind_names:]])
    world = (size, called, facts)
    if not fit_world(world):
        raise NoWorld("the rows tell no fit world")
    return world


def read_size(row):
    if len(row) != 2 or row[0] != "things":
        raise NoWorld("the first row doesn't tell how many things there are")
    return read_number(row[1])


def is_names_row(row):
    return len(row) == 3 and row[1] == "is"


def read_fact(row):
    return (row[0], tuple([read_number(run) for run in row[1:]]))


def read_number(run):
    if not is_number(run):
        raise NoWorld(f"no number: {run!r}")
    return int(run)
