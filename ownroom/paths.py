"""Paths: the names that lead from the root to a node."""

from ownroom.errors import BadName

LETTERS = "abcdefghijklmnopqrstuvwxyz"
NAME_LETTERS = 6


def is_name(text):
    return 1 <= len(text) <= NAME_LETTERS and all([letter in LETTERS for letter in text])


def names_of(path):
    if path == "/":
        return []
    if not path.startswith("/"):
        raise BadName(f"{path!r} is no path")
    names = path[1:].split("/")
    for name in names:
        if not is_name(name):
            raise BadName(f"{path!r} is no path")
    return names
