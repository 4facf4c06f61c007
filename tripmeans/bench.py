"""A bench: programs by labels, promises about them, and deals that are done, undone and done again (part 12)."""

from tripmeans.benchtexts import bench_lines, read_bench
from tripmeans.edits import edited, first_unkept, is_edit, program_of
from tripmeans.errors import BadEdit, BadPromise, NothingToRedo, NothingToUndo, TripError, Unkept
from tripmeans.promises import is_fault, is_promise, judged_promise


class Bench:
    """Programs by labels, promises, and the deals that were done and undone."""

    def __init__(self):
        # What is kept: the program of each label, and the promises; replaced as a whole, never changed.
        self._kept = ({}, ())
        # For each deal that was done what was kept ahead of it, for each undone one what was kept behind it.
        self._done = []
        self._undone = []

    def __eq__(self, other):
        return isinstance(other, Bench) and self._kept == other._kept

    def __str__(self):
        return "\n".join(bench_lines(self._kept))

    @classmethod
    def read(cls, text):
        """The bench of a text, without deals."""
        found = cls()
        found._kept = read_bench(text)
        return found

    def copy(self):
        """An equal bench with the same deals."""
        found = Bench()
        found._kept = self._kept
        found._done = list(self._done)
        found._undone = list(self._undone)
        return found

    def labels(self):
        """The ascending tuple of the labels."""
        return tuple(sorted(self._kept[0]))

    def program(self, label):
        """The program of a label."""
        return program_of(self._kept[0], label)

    def promises(self):
        """The tuple of the promises, in the order in which they were given."""
        return self._kept[1]

    def deals(self):
        """The tuple of the deals, in the order in which they were done."""
        return tuple([edits for edits, _ in self._done])

    def deal(self, edits):
        """Does a deal."""
        if not isinstance(edits, tuple):
            raise BadEdit(-1)
        kept = self._kept
        for number, change in enumerate(edits):
            if not is_edit(change):
                raise BadEdit(number)
            try:
                kept = edited(kept, change)
            except TripError:
                raise BadEdit(number) from None
        self._settle(edits, kept)

    def edit(self, change):
        """Does a deal of one edit."""
        if not is_edit(change):
            raise BadEdit(0)
        self._settle((change,), edited(self._kept, change))

    def _settle(self, edits, kept):
        """Keeps what a deal leads to, if all promises are kept there."""
        found = first_unkept(self._kept, kept)
        if found is not None:
            raise Unkept(found[0], found[1])
        self._done.append((edits, self._kept))
        self._undone.clear()
        self._kept = kept

    def undo(self):
        """Undoes the last deal."""
        if not self._done:
            raise NothingToUndo()
        edits, kept = self._done.pop()
        self._undone.append((edits, self._kept))
        self._kept = kept

    def redo(self):
        """Does the deal again that was undone last."""
        if not self._undone:
            raise NothingToRedo()
        edits, kept = self._undone.pop()
        self._done.append((edits, self._kept))
        self._kept = kept

    def judged(self, promise):
        """("kept",) for a promise, or a fault that shows that it is not kept."""
        if not is_promise(self._kept[0], promise):
            raise BadPromise(promise)
        return judged_promise(self._kept[0], promise)


def fault_holds(bench, promise, thing):
    """Whether any value is a right fault of a promise that is not kept."""
    programs = {label: bench.program(label) for label in bench.labels()}
    return is_promise(programs, promise) and is_fault(programs, promise, thing)
