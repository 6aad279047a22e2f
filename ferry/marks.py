"""Signs, figures and numbers: what texts of pieces are made of."""

FIRST_SIGN = 32
LAST_SIGN = 126
# The one sign between the first and the last that is none.
LEFT_OUT_SIGN = 37

CHECK_BEGIN = 7
CHECK_FACTOR = 31
# A prime, so that one sign another always gives another check.
CHECK_MODULUS = 9973

FIGURES = "0123456789"
# 10 ** 12
MOST_NUMBER = 1000000000000
MOST_FIGURES = 13


def is_sign(sign):
    place = ord(sign)
    return FIRST_SIGN <= place <= LAST_SIGN and place != LEFT_OUT_SIGN


def is_signs(thing):
    return isinstance(thing, str) and all([is_sign(sign) for sign in thing])


def is_number(thing, least, most):
    # True and False are ints to Python, but no numbers here.
    if isinstance(thing, bool) or not isinstance(thing, int):
        return False
    return least <= thing <= most


def check_of(signs):
    check = CHECK_BEGIN
    for sign in signs:
        check = (check * CHECK_FACTOR + ord(sign) - FIRST_SIGN) % CHECK_MODULUS
    return check


def figures(number):
    return str(number)


def is_figures(text):
    # The length is looked at first, as int refuses texts of very many figures.
    if not isinstance(text, str) or not 1 <= len(text) <= MOST_FIGURES:
        return False
    if text[0] == "0" and len(text) > 1:
        return False
    # Not isdigit, which takes figures of other scripts too.
    return all([sign in FIGURES for sign in text])


def number_of(text):
    if not is_figures(text):
        return None
    number = int(text)
    return number if number <= MOST_NUMBER else None
