"""The checker: the first line of a derivation that doesn't follow, and which derivations are let by."""

from boxproof.lines import fitting_boxes
from boxproof.steps import Ahead, follows_behind


def wrong_at(lines):
    paths = fitting_boxes(lines)
    ahead = Ahead(lines)
    for k in range(len(paths)):
        if not follows_behind(ahead, lines, paths, k):
            return k
    return len(paths) if len(paths) < len(lines) else None


def lets_by(givens, goal, lines):
    if len(lines) == 0 or wrong_at(lines) is not None:
        return False
    for line in lines:
        if line[1] == "given" and line[2] not in givens:
            return False
    return lines[-1][0] == 0 and lines[-1][2] == goal
