"""The errors of the package. Each keeps the values that it was created with."""


class BadText(ValueError):
    """A text is no program: at this place stands what cannot follow there."""

    def __init__(self, at):
        ValueError.__init__(self, f"no token that can follow begins at place {at}")
        self.at = at


class Unsound(ValueError):
    """A program has faults."""

    def __init__(self, faults):
        ValueError.__init__(self, f"the program has the faults {faults}")
        # A later change of the caller's list must not change the error.
        self.faults = list(faults) if isinstance(faults, list) else faults


class Gap(ValueError):
    """An input is not the next one of its port, which would have this number."""

    def __init__(self, number):
        ValueError.__init__(self, f"the next input has the number {number}")
        self.number = number


class BadLine(ValueError):
    """The line of a sheet with this index has the wrong form."""

    def __init__(self, number):
        ValueError.__init__(self, f"line {number} has the wrong form")
        self.number = number


class NoLoose(ValueError):
    """There is no loose write with this index."""

    def __init__(self, number):
        ValueError.__init__(self, f"there is no loose write {number}")
        self.number = number


class NoCut(ValueError):
    """A log cannot be cut at this block."""

    def __init__(self, block):
        ValueError.__init__(self, f"the log cannot be cut at block {block}")
        self.block = block


class NoHistory(ValueError):
    """The event with this index cannot be applied."""

    def __init__(self, index):
        ValueError.__init__(self, f"event {index} cannot be applied")
        self.index = index


class NoObject(LookupError):
    """This string is not the REF of an object."""

    def __init__(self, ref):
        LookupError.__init__(self, f"there is no object {ref}")
        self.ref = ref


class NoPlace(LookupError):
    """An object has no such place."""

    def __init__(self, place):
        LookupError.__init__(self, f"the object has no place {place}")
        self.place = place


class NoBlock(LookupError):
    """A disk has no such block."""

    def __init__(self, place):
        LookupError.__init__(self, f"the disk has no block {place}")
        self.place = place


class NoOutput(LookupError):
    """No output with this number was released."""

    def __init__(self, number):
        LookupError.__init__(self, f"output {number} was not released")
        self.number = number


class Gone(LookupError):
    """A log does not have the RECORDs from this number on."""

    def __init__(self, number):
        LookupError.__init__(self, f"the log does not have the RECORDs from {number} on")
        self.number = number


class Refused(RuntimeError):
    """A program cannot be changed: this frame cannot go on, for the reason that the word tells."""

    def __init__(self, task, depth, word):
        RuntimeError.__init__(self, f"frame {depth} of task {task} cannot go on: {word}")
        self.task = task
        self.depth = depth
        self.word = word


class Busy(RuntimeError):
    """What should begin is under way already."""

    def __init__(self):
        RuntimeError.__init__(self, "this is under way already")


class Idle(RuntimeError):
    """What should go on was not begun."""

    def __init__(self):
        RuntimeError.__init__(self, "this was not begun")


class Stopped(RuntimeError):
    """A disk has failed."""

    def __init__(self):
        RuntimeError.__init__(self, "the disk has failed")


class NoRoot(RuntimeError):
    """A disk has no root that can be used."""

    def __init__(self):
        RuntimeError.__init__(self, "the disk has no root that can be used")


class Full(OverflowError):
    """This many blocks are too few."""

    def __init__(self, count):
        OverflowError.__init__(self, f"{count} blocks are too few")
        self.count = count
