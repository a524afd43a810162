"""The refusals of the kernel, one class for each."""


class KernelError(ValueError):
    pass


# Every class stands straight under KernelError, so that taking one refusal never takes another with it.

class NoOwner(KernelError):
    pass


class NoTask(KernelError):
    pass


class NoPage(KernelError):
    pass


class NoRoom(KernelError):
    pass


class Taken(KernelError):
    pass


class NoBlock(KernelError):
    pass


class Fallen(KernelError):
    pass


class BadName(KernelError):
    pass


class NoName(KernelError):
    pass


class NotDir(KernelError):
    pass


class IsDir(KernelError):
    pass


class NotEmpty(KernelError):
    pass


class Inside(KernelError):
    pass


class NoNode(KernelError):
    pass


class NoSpace(KernelError):
    pass


class TooMany(KernelError):
    pass


class TooBig(KernelError):
    pass


class NotHeld(KernelError):
    pass


class NotAllowed(KernelError):
    pass


class NoHandle(KernelError):
    pass


class BadMode(KernelError):
    pass


class Again(KernelError):
    pass


class Broken(KernelError):
    pass


class NoChild(KernelError):
    pass


class BadCall(KernelError):
    pass


class BadRow(KernelError):
    def __init__(self, row):
        self.row = row
