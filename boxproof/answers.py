"""Answers: what was derived, a world in which the goal fails, or that the search gave up."""

from boxproof.search import tree_for
from boxproof.trees import branch, branch_world
from boxproof.writer import lines_of


def answer(givens, goal, most):
    tree = tree_for(givens, goal, most)
    last = len(tree) - 1
    if tree[last][1] == "far":
        return ("far", None)
    if tree[last][1] == "done":
        return ("none", branch_world(branch(tree, last)))
    return ("derived", lines_of(givens, goal, tree))
