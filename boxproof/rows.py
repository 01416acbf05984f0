"""The rows of a text, the runs that stand in a row between blanks, and which of them are numbers."""

FIGURES = "0123456789"
MOST_FIGURES = 4


def rows_in(text):
    return [row for row in text.split("\n") if row.strip(" ") != ""]


def runs_in(row):
    return [run for run in row.split(" ") if run != ""]


def is_number(text):
    if text == "" or len(text) > MOST_FIGURES:
        return False
    if text[0] == "0" and text != "0":
        return False
    return all([sign in FIGURES for sign in text])
