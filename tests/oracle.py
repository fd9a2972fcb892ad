"""Another way to tell which texts are to be read: a text is boiled down by patterns until one mark is left.

It looks at the writing alone, not at how great the thing is.
"""

import re

KNOWN = re.compile(r"[a-zA-Z0-9?(),]+")
SIGN = "[a-z]{1,8}"
TITLE = "[A-Z][a-z]{0,7}"
BLANK = r"\?(?:[0-9]|[1-9][0-9])"
TURNING = re.compile(f"({TITLE}): ([^ ]*) > ([^ ]*)")


def is_written(text, heads, leaves):
    if not KNOWN.fullmatch(text):
        return False
    alone = f"(?<![a-zA-Z0-9?#])(?:{leaves})(?![a-zA-Z0-9?#(])"
    with_parts = f"(?<![a-zA-Z0-9?#])(?:{heads})\\(#(?:,#)*\\)(?![a-zA-Z0-9?#(])"
    boiled = re.sub(alone, "#", text)
    before = ""
    while boiled != before:
        before = boiled
        boiled = re.sub(with_parts, "#", boiled)
    return boiled == "#"


def is_written_way(text):
    return is_written(text, f"{SIGN}|{TITLE}", f"{SIGN}|{TITLE}")


def is_written_side(text):
    return is_written(text, SIGN, f"{SIGN}|{BLANK}")


def is_written_turning(text):
    found = TURNING.fullmatch(text)
    return found is not None and is_written_side(found[2]) and is_written_side(found[3])
