"""Numbers as they are written by figures."""

FIGURES = ("0", "1", "2", "3", "4", "5", "6", "7", "8", "9")


# A text has isdigit for figures of other scripts too, so each sign is looked at by itself.
def figures_number(text, most):
    """The number that is written by one to so many figures, without noughts ahead but for 0 itself; or None."""
    if not 1 <= len(text) <= most or not all([sign in FIGURES for sign in text]):
        return None
    if text[0] == "0" and text != "0":
        return None
    return int(text)
