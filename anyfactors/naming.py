"""Names of unknowns."""

LONGEST = 6
LETTERS = "abcdefghijklmnopqrstuvwxyz"
DIGITS = "0123456789"


def valid_name(text):
    """Tell whether the text is a name."""
    if not isinstance(text, str) or len(text) < 1 or len(text) > LONGEST:
        return False
    return text[0] in LETTERS and all([sign in LETTERS or sign in DIGITS for sign in text])
