"""Names, and the words that are none."""

LETTERS = "abcdefghijklmnopqrstuvwxyz"
DIGITS = "0123456789"
RESERVED = (
    "model", "streams", "resource", "store", "belt", "counter", "process", "plan", "for", "of",
    "length", "room", "at", "cycle", "hold", "mark", "add", "drop", "put", "take", "load", "unload",
    "interrupt", "stop", "end", "draw", "use", "rank", "patience", "else", "if", "free", "queue",
    "loop", "guard", "handle",
)


def is_name(text):
    """Whether a string is a name."""
    if not 1 <= len(text) <= 8 or text in RESERVED:
        return False
    return text[0] in LETTERS and all([sign in LETTERS or sign in DIGITS for sign in text])
