"""Which objects of a heap are reachable, and the freeing of those that are not."""

from lastingrun.errors import Busy


class Marks:
    """Marks the objects of a heap that were reachable from some REFs when it was made."""

    def __init__(self, heap, roots):
        self._heap = heap
        # The objects that were there then and that nobody has dropped since.
        self._known = {ref: True for ref in heap.refs()}
        self._marked = {}
        # Those that are marked and were not looked at yet, maybe with dropped ones.
        self._rest = []
        for ref in roots:
            self.mark(ref)

    def mark(self, atom):
        """Marks the object that an ATOM names, if it names one."""
        if atom in self._known and atom not in self._marked:
            self._marked[atom] = True
            self._rest.append(atom)

    def look(self):
        """Looks at one marked object, if one is left, and marks those that it names; returns whether
        there was one."""
        while self._rest:
            ref = self._rest.pop()
            if ref in self._known:
                self.mark_named(ref)
                return True
        return False

    def mark_named(self, ref):
        """Marks the objects that an object names."""
        for atom in self._heap.atoms(ref):
            self.mark(atom)

    def is_known(self, ref):
        return ref in self._known

    def is_marked(self, ref):
        return ref in self._marked

    def drop(self, ref):
        """Takes a known object out: if another one gets its place, that is not marked, nor known."""
        del self._known[ref]


def reachable(heap, roots):
    """The list of the REFs of the objects that are reachable from the list roots, by ascending cells."""
    marks = Marks(heap, roots)
    while marks.look():
        pass
    return [ref for ref in heap.refs() if marks.is_marked(ref)]


class Collector:
    """Frees the unreachable objects of a heap, step by step, while the heap is used.

    What was reachable at the beginning is found although the heap changes: an ATOM that is replaced
    is marked before, and objects that were made since are not known to the marks, so they stay.
    """

    def __init__(self, heap):
        self._heap = heap
        # The marks of the collection under way, or None.
        self._marks = None
        # The REFs of the objects to be freed or not, the next one last; some may be freed already.
        self._rest = []
        heap.watch(self)

    def begin(self, roots):
        """Begins a collection of what is not reachable from the list roots. Raises Busy()."""
        if self._marks is not None:
            raise Busy()
        self._marks = Marks(self._heap, roots)
        self._rest = self._heap.refs()
        self._rest.reverse()

    def busy(self):
        """Whether a collection is under way."""
        return self._marks is not None

    def step(self, many=1):
        """Makes up to so many steps; returns whether the collection ended by them."""
        while many > 0 and self._marks is not None:
            many -= 1
            if not self._marks.look():
                self._sweep()
            if self._marks is None:
                return True
        return False

    def _sweep(self):
        """Looks at the next object, and ends the collection behind the last one."""
        self._skip_freed()
        if self._rest:
            ref = self._rest.pop()
            self._marks.drop(ref)
            if not self._marks.is_marked(ref):
                self._heap.free(ref)
            self._skip_freed()
        if not self._rest:
            self._marks = None

    def _skip_freed(self):
        while self._rest and not self._marks.is_known(self._rest[-1]):
            self._rest.pop()

    def note_put(self, ref, atom):
        """Is told by the heap that this ATOM of an object will be replaced."""
        if self._marks is not None:
            self._marks.mark(atom)

    def note_free(self, ref):
        """Is told by the heap that an object will be freed."""
        # What the object names may have been put elsewhere without another trace of it.
        if self._marks is not None and self._marks.is_known(ref):
            self._marks.mark_named(ref)
            self._marks.drop(ref)
