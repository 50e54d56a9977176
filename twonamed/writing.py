"""Rows of demands as texts."""

from twonamed.things import ARROW_WORD, MARK_WORDS


def written_form(form):
    if isinstance(form, str):
        return form
    word = form[0]
    if word == ARROW_WORD:
        return form[1] + form[2]
    if word in MARK_WORDS:
        return word + form[1]
    return " ".join([word] + [written_form(part) for part in form[1:]])


def written_demand(demand):
    return " ".join([demand[0], demand[1], written_form(demand[2])])


def written(row):
    if len(row) == 0:
        return "-"
    return " ; ".join([written_demand(demand) for demand in row])
