"""The words of texts, and which names may be given to tools and setups."""

OWN_WORDS = (
    "let", "shape", "box", "to", "at", "mirror", "array", "by", "turn", "cut", "keep", "x", "y", "z", "stock", "part",
    "allowance", "machine", "from", "home", "rapid", "change", "clamp", "tool", "rate", "cutter", "holder", "setup",
    "fixture",
)
LETTERS = "abcdefghijklmnopqrstuvwxyz"
FIGURES = "0123456789"
WORD_SIGNS = "abcdefghijklmnopqrstuvwxyz0123456789_"
LONGEST_NAME = 12


def is_name(thing):
    """Whether a thing may be the name of a tool or a setup."""
    if not isinstance(thing, str) or not 1 <= len(thing) <= LONGEST_NAME or thing in OWN_WORDS:
        return False
    return thing[0] in LETTERS and all([sign in WORD_SIGNS for sign in thing])
