"""The desk: questions asked by texts and answered by texts."""

from boxproof.answers import answer
from boxproof.errors import NoStatement
from boxproof.linetexts import lines_text
from boxproof.rows import is_number, rows_in
from boxproof.statements import free_in
from boxproof.texts import read
from boxproof.worldtexts import world_text

USUAL_MOST = 8
GREATEST_MOST = 40


def said(text):
    question = question_in(text)
    if question is None:
        return "no question\n"
    found = answer(question[0], question[1], question[2])
    if found[0] == "derived":
        return "derived\n" + lines_text(found[1])
    if found[0] == "none":
        return "none\n" + world_text(found[1])
    return "far\n"


# The givens, the goal and how many names may be used; None where the text asks nothing.
def question_in(text):
    told = {"given": [], "goal": [], "names": []}
    for row in rows_in(text):
        halves = row.strip(" ").partition(" ")
        if halves[0] not in told or halves[2] == "":
            return None
        told[halves[0]].append(halves[2])
    if len(told["goal"]) != 1 or len(told["names"]) > 1:
        return None
    statements = [closed_statement(words) for words in told["given"] + told["goal"]]
    most = most_in(told["names"])
    if most is None or None in statements:
        return None
    return (tuple(statements[:-1]), statements[-1], most)


def closed_statement(words):
    try:
        found = read(words)
    except NoStatement:
        return None
    return found if len(free_in(found)) == 0 else None


def most_in(told):
    if len(told) == 0:
        return USUAL_MOST
    words = told[0].strip(" ")
    if not is_number(words) or int(words) < 1 or int(words) > GREATEST_MOST:
        return None
    return int(words)
