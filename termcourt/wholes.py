"""Whole numbers and names, told apart from whatever else is handed in."""

LONGEST_NAME = 8


def is_whole(thing):
    # For Python a truth is an int, too.
    return isinstance(thing, int) and not isinstance(thing, bool)


def is_name(thing):
    if not isinstance(thing, str):
        return False
    if not 1 <= len(thing) <= LONGEST_NAME:
        return False
    return all([is_small_letter(sign) for sign in thing])


def is_small_letter(sign):
    # islower would take letters beyond a to z.
    return "a" <= sign <= "z"
