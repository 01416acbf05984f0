"""The lines of a derivation: which of them open a box, and in which boxes each of them stands."""

from boxproof.errors import NoBox

OPENING_RULES = ("guess", "new", "case")


def opens(rule):
    return rule in OPENING_RULES


def boxes(lines):
    paths = fitting_boxes(lines)
    if len(paths) < len(lines):
        place = len(paths)
        raise NoBox(f"line {place} has a level that it can't have there")
    return paths


# It stops ahead of the first line whose level is none that there may be: the checker
# asks for the boxes of the lines ahead of it all the same.
def fitting_boxes(lines):
    paths = []
    path = ()
    for k, line in enumerate(lines):
        path = boxes_behind(path, line, k)
        if path is None:
            break
        paths.append(path)
    return tuple(paths)


def boxes_behind(path, line, k):
    level = line[0]
    kept = level - 1 if opens(line[1]) else level
    if kept < 0 or kept > len(path):
        return None
    if opens(line[1]):
        return path[:kept] + (k,)
    return path[:kept]
