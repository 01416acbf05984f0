"""The writer: derivations made of trees whose leaves are all shut."""

from boxproof.blocks import Page, begin_open, begin_side, end_open, end_side
from boxproof.blocks import write_and, write_idle_open, write_shut, write_use
from boxproof.errors import NotShut
from boxproof.statements import names_in


def lines_of(givens, goal, tree):
    for node in tree:
        if node[1] in ("done", "far"):
            raise NotShut("a branch of the tree isn't shut")
    page = Page()
    for A in givens:
        page.tell("given", A, ())
    box = page.begin("guess", ("not", goal), ())
    write_tree(page, tree)
    page.leave()
    page.write("absurd", goal, (box,))
    return tuple(page.lines)


def write_tree(page, tree):
    writing = Writing(page, tree)
    while len(writing.tasks) > 0:
        writing.go_on()


# What is still to be written waits as tasks, the next of them last: a tree may be deeper than calls may go.
# A task is what to do, a node, and, where the box of a side or of an open is to be ended, its first line.
class Writing:
    def __init__(self, page, tree):
        self.page = page
        self.tree = tree
        self.beneath = nodes_beneath(tree)
        self.sizes = sizes_of(tree)
        self.tasks = [("beneath", 0, None)]

    def go_on(self):
        task = self.tasks.pop()
        node = self.tree[task[1]]
        if task[0] == "beneath":
            self.write_beneath(self.beneath[task[1]])
        elif task[0] == "end side":
            self.write_other_side(task[1], task[2])
        else:
            end_open(self.page, node[2], node[3], task[2])

    def write_beneath(self, nodes):
        if len(nodes) == 1:
            self.write_step(nodes[0])
        elif len(nodes) == 2:
            # The greater side goes on at this level, so that boxes don't stand deeper within one another than need be.
            smaller = 0 if self.sizes[nodes[0]] <= self.sizes[nodes[1]] else 1
            box = begin_side(self.page, self.tree[nodes[0]][2], smaller)
            self.tasks.append(("end side", nodes[smaller], box))
            self.tasks.append(("beneath", nodes[smaller], None))

    def write_other_side(self, k, box):
        two = self.beneath[self.tree[k][0]]
        place = two.index(k)
        end_side(self.page, self.tree[k][2], place, box)
        self.tasks.append(("beneath", two[1 - place], None))

    def write_step(self, k):
        node = self.tree[k]
        if node[1] == "shut":
            write_shut(self.page, node[2])
        elif node[1] == "and":
            write_and(self.page, node[2])
        elif node[1] == "use":
            write_use(self.page, node[2], node[3])
        elif node[3] not in names_in(node[4][0]):
            write_idle_open(self.page, node[2], node[3])
        else:
            box = begin_open(self.page, node[2], node[3])
            self.tasks.append(("end open", k, box))
        self.tasks.append(("beneath", k, None))


def nodes_beneath(tree):
    beneath = [[] for node in tree]
    for k, node in enumerate(tree):
        if node[0] >= 0:
            beneath[node[0]].append(k)
    return beneath


# How many nodes there are from each node on down; those beneath it have greater numbers.
def sizes_of(tree):
    sizes = [1 for node in tree]
    for k in range(len(tree) - 1, 0, -1):
        sizes[tree[k][0]] += sizes[k]
    return sizes
