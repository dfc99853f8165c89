"""Numbers as they are written: figures 0 to 9, without a nought in front."""


def number(text, most):
    if not is_written_number(text, len(str(most))):
        return None
    written = int(text)
    return written if 1 <= written <= most else None


def is_written_number(text, most_figures):
    """Whether the text writes a number of at most so many figures; 0 is one, too."""
    # The length goes first, so that int is asked for no number of some thousands of figures.
    if not 1 <= len(text) <= most_figures:
        return False
    # int would take signs, blanks and underscores, too.
    if not all([is_figure(sign) for sign in text]):
        return False
    return text == "0" or not text.startswith("0")


def is_figure(sign):
    # isdigit would take figures beyond 0 to 9.
    return "0" <= sign <= "9"
