"""What several test files use."""

import os

from ownroom.errors import KernelError

ROOT = os.path.dirname(os.path.dirname(os.path.abspath(__file__)))

LONG = 10 ** 60 - 1


class Draws:
    """Numbers that look drawn by lot, the same ones at every run."""

    def __init__(self, seed):
        self.state = seed

    def below(self, many):
        self.state = (self.state * 6364136223846793005 + 1442695040888963407) % 2 ** 64
        return (self.state >> 33) % many

    def one_of(self, things):
        return things[self.below(len(things))]


def outcome(deed, *given):
    """What a deed tells or, where it is refused, the name of the refusal."""
    try:
        return "told", deed(*given)
    except KernelError as refusal:
        return "refused", type(refusal).__name__


def refused(name):
    return "refused", name
