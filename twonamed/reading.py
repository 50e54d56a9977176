"""Texts read back as rows of demands."""

from twonamed.errors import NoText
from twonamed.things import DEEPEST_FORM, is_row

FLAT_FORMS = {
    "yes": "yes",
    "no": "no",
    "ax": ("a", "x"),
    "ay": ("a", "y"),
    "bx": ("b", "x"),
    "by": ("b", "y"),
    "xx": ("to", "x", "x"),
    "xy": ("to", "x", "y"),
    "yx": ("to", "y", "x"),
    "yy": ("to", "y", "y"),
}
FORMS_BEHIND = {"not": 1, "both": 2, "either": 2}


# Gives the form that begins at this place, and the place behind it. The depth that is left
# goes down with each step, so that no text leads deeper than a form may be.
def read_form(words, place, depth):
    if place >= len(words):
        raise NoText("a form is missing")
    word = words[place]
    if word in FLAT_FORMS:
        return (FLAT_FORMS[word], place + 1)
    if depth == 0 or word not in FORMS_BEHIND:
        raise NoText(f"no form begins with {word!r} here")
    parts = [word]
    behind = place + 1
    while len(parts) <= FORMS_BEHIND[word]:
        found = read_form(words, behind, depth - 1)
        parts.append(found[0])
        behind = found[1]
    return (tuple(parts), behind)


# Words are parted at each single blank: a blank too many leaves an empty word, which stands nowhere.
def read_demand(text):
    words = text.split(" ")
    found = read_form(words, 2, DEEPEST_FORM)
    if found[1] < len(words):
        raise NoText("a word too many stands behind a form")
    return (words[0], words[1], found[0])


def read(text):
    if text == "-":
        return ()
    row = tuple([read_demand(part) for part in text.split(" ; ")])
    if not is_row(row):
        raise NoText("the demands begin with wrong words, or are too many")
    return row
