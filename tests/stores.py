"""What the document says of stores, a second time: which pages a disk shows, and what a snapshot writes."""

from lastingrun.disk import Disk

FAN = 4


class Watched(Disk):
    """A disk that keeps what was written and where the barriers were."""

    def __init__(self, size):
        super().__init__(size)
        self.done = []

    def write(self, place, block):
        super().write(place, block)
        self.done.append((place, tuple(block)))

    def barrier(self):
        super().barrier()
        self.done.append("barrier")


def root(image):
    """The newest root of an image, or None; only for images whose roots have the right form."""
    found = [block for at, block in enumerate(image[:2]) if block[:1] == ("root",) and block[1] % 2 == at]
    return max(found, key=lambda block: block[1], default=None)


def depth(many):
    found = 0
    while FAN ** found < many:
        found += 1
    return found


def nodes(image, block=None):
    """The places of the tree of the newest root by (level, part)."""
    _, _, top, height, _ = (block or root(image))[:5]
    found = {}

    def look(place, level, part):
        if place is not None:
            found[level, part] = place
            if level:
                for at, inner in enumerate(image[place]):
                    look(inner, level - 1, part * FAN + at)

    look(top, height, 0)
    return found


def pages(image, block=None):
    """The pages of the newest root."""
    block = block or root(image)
    places = nodes(image, block)
    return tuple(image[places[0, number]] if (0, number) in places else () for number in range(block[4]))


def trimmed(row):
    row = list(row)
    while row and row[-1] is None:
        row.pop()
    return tuple(row)


def snapshot(image, low, high, new, facts):
    """What a snapshot of these pages writes, up to the place where it is full, and whether it is."""
    old = root(image)
    places = nodes(image)
    free = [place for place in range(low, high) if place not in places.values()]
    before = pages(image)
    done = []
    level = {}
    for number, page in enumerate(new):
        if number < len(before) and page == before[number]:
            if page:
                level[number] = places[0, number]
        elif page:
            if not free:
                return done, True
            level[number] = free.pop(0)
            done.append((level[number], page))
    for height in range(1, depth(len(new)) + 1):
        above = {}
        for part in range(len(new) // FAN ** height + 1):
            block = trimmed(level.get(part * FAN + at) for at in range(FAN))
            if not block:
                continue
            if (height, part) in places and image[places[height, part]] == block:
                above[part] = places[height, part]
                continue
            if not free:
                return done, True
            above[part] = free.pop(0)
            done.append((above[part], block))
        level = above
    number = old[1] + 1
    done.append("barrier")
    done.append((number % 2, ("root", number, level.get(0), depth(len(new)), len(new), *facts)))
    done.append("barrier")
    return done, False
