"""Rows of demands changed: arrows turned, marks exchanged, names exchanged, rows put together."""

from twonamed.things import NOT_WORD, PAIRING_WORDS

TURNED_FORMS = {("to", "x", "y"): ("to", "y", "x"), ("to", "y", "x"): ("to", "x", "y")}
SWAPPED_FORMS = {
    ("a", "x"): ("b", "x"),
    ("a", "y"): ("b", "y"),
    ("b", "x"): ("a", "x"),
    ("b", "y"): ("a", "y"),
}
NAMED_BACK_FORMS = {
    ("a", "x"): ("a", "y"),
    ("a", "y"): ("a", "x"),
    ("b", "x"): ("b", "y"),
    ("b", "y"): ("b", "x"),
    ("to", "x", "x"): ("to", "y", "y"),
    ("to", "x", "y"): ("to", "y", "x"),
    ("to", "y", "x"): ("to", "x", "y"),
    ("to", "y", "y"): ("to", "x", "x"),
}


# Puts other flat forms in the places of those that are keys.
def exchanged(form, others):
    if form[0] == NOT_WORD or form[0] in PAIRING_WORDS:
        return (form[0],) + tuple([exchanged(part, others) for part in form[1:]])
    return others.get(form, form)


def exchanged_in_row(row, others):
    return tuple([(demand[0], demand[1], exchanged(demand[2], others)) for demand in row])


def turned(row):
    return exchanged_in_row(row, dict(TURNED_FORMS))


def swapped(row):
    return exchanged_in_row(row, dict(SWAPPED_FORMS))


def both_rows(one, other):
    return one + other


def named_back(demand):
    return (demand[0], demand[1], exchanged(demand[2], dict(NAMED_BACK_FORMS)))
