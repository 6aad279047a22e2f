"""Deeds: what may be done in a world, as tuples, the first part the kind."""

from ferry.marks import MOST_NUMBER, is_number, is_signs
from ferry.roads import LAST_HOST

# What stands behind the kind of each deed.
FORMS = {
    "open": ("host",),
    "write": ("host", "number", "signs"),
    "finish": ("host", "number"),
    "take": ("host", "number", "number"),
    "fall": ("host",),
    "tick": ("host",),
    "carry": ("number",),
    "lose": ("number",),
    "double": ("number",),
    "turn": ("number", "number"),
    "spoil": ("number", "number", "sign"),
}


def is_of_form(part, form):
    if form == "host":
        return is_number(part, 0, LAST_HOST)
    if form == "number":
        return is_number(part, 0, MOST_NUMBER)
    if form == "signs":
        return is_signs(part)
    # Whichever sign: the road refuses those that no text has.
    return isinstance(part, str) and len(part) == 1


def is_deed(thing):
    # The kind is looked at ahead of the dict, which not every thing can be asked of.
    if not isinstance(thing, tuple) or len(thing) == 0 or not isinstance(thing[0], str):
        return False
    forms = FORMS.get(thing[0])
    if forms is None or len(forms) != len(thing) - 1:
        return False
    return all([is_of_form(pair[0], pair[1]) for pair in zip(thing[1:], forms)])
