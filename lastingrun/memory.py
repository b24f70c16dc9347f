"""Cells without end, in pages that are kept as they were."""

from lastingrun.errors import Busy, Idle
from lastingrun.limits import PAGE


def without_end(atoms):
    """The tuple of the ATOMs of a page without the Nones at its end."""
    many = len(atoms)
    while many > 0 and atoms[many - 1] is None:
        many -= 1
    return tuple(atoms[:many])


class Memory:
    """Cells 0, 1, 2, .. that each hold an ATOM, in pages of PAGE cells."""

    def __init__(self, pages=()):
        # The pages that are not empty, as lists of PAGE ATOMs, by their numbers.
        self._rows = {}
        for number, page in enumerate(pages):
            if without_end(page):
                self._rows[number] = list(page) + [None] * (PAGE - len(page))
        # The pages of the base that a put has changed since, as they were.
        self._base = {}
        # The same for the frozen state, which is None if there is none; and its number of pages.
        self._kept = None
        self._kept_many = 0
        self._puts = 0

    def get(self, cell):
        """The ATOM in a cell."""
        if cell // PAGE not in self._rows:
            return None
        return self._rows[cell // PAGE][cell % PAGE]

    def put(self, cell, atom):
        """Replaces the ATOM in a cell."""
        if self.get(cell) == atom:
            return
        number = cell // PAGE
        self._keep(number)
        row = self._rows.setdefault(number, [None] * PAGE)
        row[cell % PAGE] = atom
        if not without_end(row):
            del self._rows[number]
        self._puts += 1

    def _keep(self, number):
        """Keeps a page, which is changed now, for the base and for the frozen state."""
        if number not in self._base:
            self._base[number] = self.page(number)
        if self._kept is not None and number not in self._kept:
            self._kept[number] = self.page(number)

    def puts(self):
        """How often a cell has changed."""
        return self._puts

    def filled(self):
        """The ascending list of the cells that are not None."""
        cells = []
        for number in sorted(self._rows):
            row = self._rows[number]
            cells.extend([number * PAGE + place for place in range(PAGE) if row[place] is not None])
        return cells

    def many(self):
        """The number of pages up to the last cell that is not None."""
        return max(self._rows, default=-1) + 1

    def page(self, number):
        """The ATOMs of a page, as a tuple without the Nones at its end."""
        return without_end(self._rows.get(number, []))

    def changed(self):
        """The ascending list of the numbers of the pages that differ from those of the base."""
        return sorted([number for number, page in self._base.items() if self.page(number) != page])

    def freeze(self):
        """Keeps the present state as the frozen one; returns changed(). Raises Busy()."""
        if self._kept is not None:
            raise Busy()
        self._kept = {}
        self._kept_many = self.many()
        return self.changed()

    def frozen(self, number):
        """A page of the frozen state. Raises Idle()."""
        self._need_frozen()
        return self._kept[number] if number in self._kept else self.page(number)

    def frozen_many(self):
        """The number of pages of the frozen state. Raises Idle()."""
        self._need_frozen()
        return self._kept_many

    def settle(self):
        """Lets the frozen state become the base. Raises Idle()."""
        self._need_frozen()
        self._base = self._kept
        self._kept = None

    def thaw(self):
        """Gives up the frozen state. Raises Idle()."""
        self._need_frozen()
        self._kept = None

    def _need_frozen(self):
        if self._kept is None:
            raise Idle()
