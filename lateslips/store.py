"""A store: what stands now and a few slips, whatever order slips come in."""

from lateslips.changes import refuse_blind
from lateslips.errors import Refused
from lateslips.heaps import checked_heap, times_meet
from lateslips.late import receive, redone
from lateslips.machines import is_state
from lateslips.merging import merge


class Store:
    """A store that began in a state; its deeds can be undone."""

    def __init__(self, machine, state):
        refuse_blind(machine)
        if not is_state(machine, state):
            raise Refused(0)
        self.machine = machine
        self.start = state
        # What stands now, what is kept, and how many slips came; then all such ahead of each deed.
        self._held = (state, (), 0)
        self._before = []

    def __len__(self):
        return len(self._before)

    def now(self):
        """What stands now."""
        return self._held[0]

    def kept(self):
        """The kept slips."""
        return self._held[1]

    def count(self):
        """How many slips came."""
        return self._held[2]

    def come(self, slip):
        """Receives a slip."""
        # What is no slip, and a time that is kept, is refused there, as it should be here.
        now, kept = receive(self.machine, self.now(), self.kept(), slip)
        self._do(now, kept, 1)

    def come_all(self, slips):
        """Receives the slips of a sequence, one after another, as one deed."""
        checked_heap(self.machine, slips)
        now, kept = self.now(), self.kept()
        for slip in slips:
            now, kept = receive(self.machine, now, kept, slip)
        self._do(now, kept, len(slips))

    def meet(self, other):
        """Takes in what another store got."""
        if not isinstance(other, Store) or other.machine != self.machine or other.start != self.start:
            raise Refused(0)
        if times_meet(self.kept(), other.kept()):
            raise Refused(1)
        standings = [(self.now(), self.kept()), (other.now(), other.kept())]
        now, kept = merge(self.machine, (self.start, ()), standings)
        self._do(now, kept, other.count())

    def _do(self, now, kept, many):
        """One more deed, by which so many slips came."""
        self._before.append(self._held)
        self._held = (now, kept, self.count() + many)

    def would_be(self, slip):
        """What would stand now if the slip came."""
        return redone(self.machine, self.now(), self.kept(), (slip,))

    def matters(self, slip):
        """Whether that is another state than the one that stands now."""
        return self.would_be(slip) != self.now()

    def undo(self):
        """Undoes the last deed; tells whether there was one."""
        if len(self._before) == 0:
            return False
        self._held = self._before.pop()
        return True

    def within(self, work):
        """What `work(store)` returns; all deeds done in it are undone."""
        held, before = self._held, self._before
        # The work has a list of its own, so that the one from before it need only be put back.
        self._before = list(before)
        try:
            return work(self)
        finally:
            self._held, self._before = held, before
