"""Pictures of what is in a run."""

from lastingrun.live import live_names
from lastingrun.values import is_record


class Picture:
    """Shows values; numbers the records in the order in which they are met."""

    def __init__(self, world):
        # The world has the method pairs, for the fields of a record with their values.
        self.world = world
        self.indices = {}
        self.met = []

    def show(self, value):
        if not is_record(value):
            return value
        if value not in self.indices:
            self.indices[value] = len(self.met)
            self.met.append(value)
        return ("record", self.indices[value])

    def show_pairs(self, pairs):
        return tuple([(name, self.show(value)) for name, value in pairs])

    def show_tasks(self, tasks):
        """Shows a list of pairs (number, frames)."""
        return tuple([(number, tuple([self.show_frame(frame) for frame in frames])) for number, frames in tasks])

    def show_frame(self, frame):
        number, wait = frame.code.points[frame.place]
        held = tuple([self.show(value) for value in frame.stack])
        names = live_names(frame.code, frame.place)
        variables = self.show_pairs([(name, frame.variables[name]) for name in names])
        return (frame.code.name, number, wait, held, variables)

    def show_records(self):
        """Shows the records that were met, and those that are met in them."""
        rows = []
        while len(rows) < len(self.met):
            rows.append(self.show_pairs(self.world.pairs(self.met[len(rows)])))
        return tuple(rows)
