"""Sheets: sessions of a host as texts."""

from lastingrun.disk import Disk
from lastingrun.errors import BadText, Full, Gap, NoLoose, NoOutput, Refused, Stopped, Unsound
from lastingrun.host import recover, start
from lastingrun.requests import Lines


def answers(text, size=200):
    """The list of the answers to the requests of a sheet. Raises BadLine(number), and what start does."""
    lines = Lines(text)
    program = lines.program()
    requests = []
    while not lines.is_over():
        requests.append(lines.request())
    session = Session(Disk(size), program)
    return [session.answer(request) for request in requests]


def outbox_text(pairs):
    return " ".join([f"{number}:{value}" for number, value in pairs]) or "-"


def end_text(finished):
    return "finished" if finished else "open"


class Session:
    """A host on a disk, which answers requests."""

    def __init__(self, disk, text):
        self.disk = disk
        self.host = start(disk, text)
        # Whether the host must not be used until a crash.
        self.stopped = False

    def answer(self, request):
        """The answer to a request, also if it raises an error."""
        if self.stopped and request[0] != "crash":
            return "error Stopped"
        try:
            return self.done(request)
        except Stopped:
            self.stopped = True
            return "error Stopped"
        except BadText:
            return "error BadText"
        except Unsound:
            return "error Unsound"
        except Refused:
            return "error Refused"
        except Gap:
            return "error Gap"
        except NoOutput:
            return "error NoOutput"
        except NoLoose:
            return "error NoLoose"
        except Full:
            return "error Full"

    def done(self, request):
        """Does what is requested; returns the answer."""
        match request:
            case ("accept", port, number, value):
                return "new" if self.host.accept(port, number, value) else "known"
            case ("took", port, number):
                self.host.took(port, number)
                return "done"
            case ("out", port):
                return outbox_text(self.host.outbox(port))
            case ("confirmed", port):
                return str(self.host.confirmed(port))
            case ("run", many):
                return str(self.host.run(many))
            case ("snapshot",):
                return end_text(self.host.snapshot())
            case ("snapshot", many):
                return end_text(self.host.snapshot(many))
            case ("collect",):
                return end_text(self.host.collect())
            case ("collect", many):
                return end_text(self.host.collect(many))
            case ("fail", many):
                self.disk.fail_after(many)
                return "done"
            case ("change", text):
                self.host.change(text)
                return "done"
            case ("crash", kept):
                return self.crashed(kept)
        return str(self.number(request[0]))

    def number(self, word):
        """The answer to a request of one word that asks for a number."""
        if word == "commit":
            return self.host.commit()
        if word == "turns":
            return self.host.turns()
        if word == "fixed":
            return self.host.fixed()
        if word == "records":
            return self.host.records()
        return self.disk.writes()

    def crashed(self, kept):
        """Lets the disk crash and recovers the host; returns the answer."""
        self.disk.crash(kept)
        self.host = recover(self.disk)
        self.stopped = False
        return f"recovered {self.host.turns()}"
