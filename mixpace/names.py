"""The names of dishes and of tools."""

LETTERS = "abcdefghijklmnopqrstuvwxyz"
MOST_LETTERS = 12


def is_name(text):
    """Tells whether the text can be the name of a dish or of a tool."""
    return 1 <= len(text) <= MOST_LETTERS and all([letter in LETTERS for letter in text])
