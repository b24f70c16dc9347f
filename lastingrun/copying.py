"""Copies of what is handed over."""


def as_tuples(tree):
    """The same tree with a tuple for each list."""
    # Lists of what is left to do and of what is done, because a long sum goes deep.
    rest = [(tree, False)]
    done = []
    while rest:
        part, finished = rest.pop()
        if finished:
            low = len(done) - len(part)
            done[low:] = [tuple(done[low:])]
        elif isinstance(part, (list, tuple)):
            rest.append((part, True))
            rest.extend([(inner, False) for inner in reversed(part)])
        else:
            done.append(part)
    return done[0]
