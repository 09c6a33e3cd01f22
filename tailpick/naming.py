"""What a name is."""

LETTERS = "abcdefghijklmnopqrstuvwxyz"
DIGITS = "0123456789"
LONGEST = 6


def valid_name(text):
    """Return True if the string is a name."""
    if not 1 <= len(text) <= LONGEST:
        return False
    # isalpha and isdigit are not asked, since they know more than ASCII.
    return text[0] in LETTERS and all([sign in LETTERS or sign in DIGITS for sign in text])
