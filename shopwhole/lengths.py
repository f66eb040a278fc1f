"""Lengths as texts write them: thousandths as millimetres."""


def length_text(length):
    """Thousandths as millimetres."""
    sign = "-" if length < 0 else ""
    whole, rest = divmod(abs(length), 1000)
    behind = f".{rest:03d}".rstrip("0") if rest else ""
    return f"{sign}{whole}{behind}"
