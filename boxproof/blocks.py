"""The lines and boxes that each step of a tree becomes in a derivation."""

from boxproof.trees import pieces, with_name

FALSE = ("false",)


# The lines written so far. Found are the statements of the branch that is being written, each with a line of it
# that is seen from where the next line will stand.
class Page:
    def __init__(self):
        self.lines = []
        self.level = 0
        self.found = {}
        self.order = []
        self.kept = []

    def write(self, rule, statement, refs):
        self.lines.append((self.level, rule, statement, refs))
        return len(self.lines) - 1

    def tell(self, rule, statement, refs):
        line = self.write(rule, statement, refs)
        if statement is not None and statement not in self.found:
            self.found[statement] = line
            self.order.append(statement)
        return line

    def begin(self, rule, statement, refs):
        self.level += 1
        self.kept.append(len(self.order))
        return self.tell(rule, statement, refs)

    def leave(self):
        self.level -= 1
        kept = self.kept.pop()
        while len(self.order) > kept:
            self.found.pop(self.order.pop())


def write_shut(page, of):
    if of == FALSE:
        page.write("again", FALSE, (page.found[FALSE],))
    else:
        page.write("clash", FALSE, (page.found[of], page.found[("not", of)]))


def write_and(page, of):
    for place, piece in enumerate(pieces(of)):
        if piece not in page.found:
            write_piece(page, of, place)


def write_piece(page, of, place):
    i = page.found[of]
    if of[0] == "and":
        page.tell("left" if place == 0 else "right", of[1 + place], (i,))
    elif of[1][0] == "not":
        write_of_not_not(page, i, of[1][1])
    elif of[1][0] == "or":
        write_of_not_or(page, i, of[1], of[1][1 + place])
    elif place == 0:
        write_first_of_not_then(page, i, of[1])
    else:
        write_second_of_not_then(page, i, of[1])


def write_of_not_not(page, i, A):
    box = page.begin("guess", ("not", A), ())
    page.write("clash", FALSE, (box, i))
    page.leave()
    page.tell("absurd", A, (box,))


def write_of_not_or(page, i, whole, A):
    box = page.begin("guess", A, ())
    either = page.write("either", whole, (box,))
    page.write("clash", FALSE, (either, i))
    page.leave()
    page.tell("deny", ("not", A), (box,))


def write_first_of_not_then(page, i, whole):
    box = page.begin("guess", ("not", whole[1]), ())
    inner = page.begin("guess", whole[1], ())
    clash = page.write("clash", FALSE, (inner, box))
    page.write("any", whole[2], (clash,))
    page.leave()
    then = page.write("then", whole, (inner,))
    page.write("clash", FALSE, (then, i))
    page.leave()
    page.tell("absurd", whole[1], (box,))


def write_second_of_not_then(page, i, whole):
    box = page.begin("guess", whole[2], ())
    inner = page.begin("guess", whole[1], ())
    page.write("again", whole[2], (box,))
    page.leave()
    then = page.write("then", whole, (inner,))
    page.write("clash", FALSE, (then, i))
    page.leave()
    page.tell("deny", ("not", whole[2]), (box,))


def write_use(page, of, name):
    i = page.found[of]
    told = with_name(of, name)
    if of[0] == "all":
        page.tell("each", told, (i, name))
        return
    box = page.begin("guess", told[1], ())
    some = page.write("some", of[1], (box, name))
    page.write("clash", FALSE, (some, i))
    page.leave()
    page.tell("deny", told, (box,))


# Where the letter doesn't stand in what is opened, that follows without the name, and no box is left to go on in.
def write_idle_open(page, of, name):
    told = with_name(of, name)
    if of[0] == "some":
        box = page.begin("case", told, (name,))
        page.leave()
        page.tell("one", told, (page.found[of], box))
        return
    box = page.begin("guess", told[1], ())
    inner = page.begin("new", None, (name,))
    page.write("again", told[1], (box,))
    page.leave()
    every = page.write("every", of[1], (inner,))
    page.write("clash", FALSE, (every, page.found[of]))
    page.leave()
    page.tell("deny", told, (box,))


# What stands beneath an open is written within the box or boxes that it begins, and ends there with false.
def begin_open(page, of, name):
    told = with_name(of, name)
    if of[0] == "some":
        return page.begin("case", told, (name,))
    box = page.begin("new", None, (name,))
    page.begin("guess", told, ())
    return box


def end_open(page, of, name, box):
    page.leave()
    if of[0] == "some":
        page.write("one", FALSE, (page.found[of], box))
        return
    page.write("absurd", with_name(of, name)[1], (box + 1,))
    page.leave()
    every = page.write("every", of[1], (box,))
    page.write("clash", FALSE, (every, page.found[of]))


# One side of an or is written within a box of its own, and ends there with false. Of that the other side follows
# on the level of the or, so that ors one beneath the other needn't be boxes within one another.
def begin_side(page, of, place):
    return page.begin("guess", pieces(of)[place], ())


def end_side(page, of, place, box):
    if of[0] == "or":
        end_side_of_or(page, of, place, box)
    elif of[0] == "not":
        end_side_of_not_and(page, of, place, box)
    elif place == 0:
        end_first_of_then(page, of, box)
    else:
        end_second_of_then(page, of, box)


def end_side_of_or(page, of, place, box):
    other = of[2 - place]
    page.write("any", other, (len(page.lines) - 1,))
    page.leave()
    beside = page.begin("guess", other, ())
    page.leave()
    two = (box, beside) if place == 0 else (beside, box)
    page.tell("cases", other, (page.found[of],) + two)


def end_side_of_not_and(page, of, place, box):
    both = of[1]
    other = both[2 - place]
    page.leave()
    shown = page.write("absurd", both[1 + place], (box,))
    beside = page.begin("guess", other, ())
    two = (shown, beside) if place == 0 else (beside, shown)
    whole = page.write("both", both, two)
    page.write("clash", FALSE, (whole, page.found[of]))
    page.leave()
    page.tell("deny", ("not", other), (beside,))


def end_first_of_then(page, of, box):
    page.leave()
    first = page.write("absurd", of[1], (box,))
    page.tell("use", of[2], (page.found[of], first))


def end_second_of_then(page, of, box):
    page.leave()
    denied = page.write("deny", ("not", of[2]), (box,))
    beside = page.begin("guess", of[1], ())
    second = page.write("use", of[2], (page.found[of], beside))
    page.write("clash", FALSE, (second, denied))
    page.leave()
    page.tell("deny", ("not", of[1]), (beside,))
