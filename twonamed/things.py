"""Whether any thing is a form, a row of demands, or a world."""

PLAIN_FORMS = ("yes", "no")
MARK_WORDS = ("a", "b")
ARROW_WORD = "to"
NOT_WORD = "not"
PAIRING_WORDS = ("both", "either")
NAMES = ("x", "y")
DEEPEST_FORM = 5

DEMAND_WORDS = ("each", "some")
RULE_START = ("each", "each")
NEED_START = ("each", "some")
MARK_START = ("some", "each")
WANT_START = ("some", "some")
MOST_DEMANDS = 4
MOST_MARKS = 2

MOST_THINGS = 4

# What is asked may hold lists, which can't be keys of a dict:
# so words are looked up in tuples, where only equality counts.


def is_tuple_of(thing, length):
    return isinstance(thing, tuple) and len(thing) == length


# A truth is an int for Python, and True == 1, but it is no whole number here.
def is_whole(thing):
    return isinstance(thing, int) and not isinstance(thing, bool)


def is_mark_form(thing):
    return is_tuple_of(thing, 2) and thing[0] in MARK_WORDS and thing[1] in NAMES


def is_arrow_form(thing):
    return is_tuple_of(thing, 3) and thing[0] == ARROW_WORD and thing[1] in NAMES and thing[2] in NAMES


def is_flat_form(thing):
    return thing in PLAIN_FORMS or is_mark_form(thing) or is_arrow_form(thing)


# The depth that is left goes down with each step, so that a thing
# far deeper than any form is not walked to its bottom.
def is_form_within(thing, depth):
    if is_flat_form(thing):
        return True
    if depth == 0:
        return False
    if is_tuple_of(thing, 2) and thing[0] == NOT_WORD:
        return is_form_within(thing[1], depth - 1)
    if is_tuple_of(thing, 3) and thing[0] in PAIRING_WORDS:
        return is_form_within(thing[1], depth - 1) and is_form_within(thing[2], depth - 1)
    return False


def is_form(thing):
    return is_form_within(thing, DEEPEST_FORM)


def is_demand(thing):
    if not is_tuple_of(thing, 3):
        return False
    return thing[0] in DEMAND_WORDS and thing[1] in DEMAND_WORDS and is_form(thing[2])


def count_marks(demands):
    return len([demand for demand in demands if demand[:2] == MARK_START])


def is_row(thing):
    if not isinstance(thing, tuple) or len(thing) > MOST_DEMANDS:
        return False
    if not all([is_demand(part) for part in thing]):
        return False
    return count_marks(thing) <= MOST_MARKS


def is_number_below(thing, many):
    return is_whole(thing) and 0 <= thing < many


def is_arrow(thing, many):
    return is_tuple_of(thing, 2) and is_number_below(thing[0], many) and is_number_below(thing[1], many)


def rises(parts):
    return all([parts[k] < parts[k + 1] for k in range(len(parts) - 1)])


# The parts are looked at before they are compared: parts of different kinds have no order.
def are_marked(thing, many):
    if not isinstance(thing, tuple):
        return False
    return all([is_number_below(part, many) for part in thing]) and rises(thing)


def are_arrows(thing, many):
    if not isinstance(thing, tuple):
        return False
    return all([is_arrow(part, many) for part in thing]) and rises(thing)


def is_world(thing):
    if not is_tuple_of(thing, 4):
        return False
    many = thing[0]
    if not is_whole(many) or not 1 <= many <= MOST_THINGS:
        return False
    return are_marked(thing[1], many) and are_marked(thing[2], many) and are_arrows(thing[3], many)
