"""Open houses, in which deeds are asked, letters come and waits change as time goes on."""

from bestunmoved.errors import InvalidEvent, NothingToUndo
from bestunmoved.helpers import need, need_grain, need_numbers
from bestunmoved.kinds import is_house, is_integer
from bestunmoved.liveasks import LiveAsks
from bestunmoved.livestates import first_state, state_after, waiting_in
from bestunmoved.plans import is_suited
from bestunmoved.reasons import reason_by
from bestunmoved.tables import table_of


class LiveHouse(LiveAsks):
    """An open house, from moment 0 on, with first waits and stamps that suit them."""

    def __init__(self, house, grain, waits, stamps):
        need(is_house(house), "house")
        need_grain(grain, "grain")
        need_numbers(len(house[2]), waits, "waits")
        need(is_suited(table_of(house), waits, stamps), "stamps")
        LiveAsks.__init__(self, house, grain, first_state(waits, stamps))

    def _after(self, state, event):
        """The state behind the event; InvalidEvent if it is not let."""
        reason = reason_by(self._house, self._grain, state, event)
        if reason is not None:
            raise InvalidEvent(event, reason)
        return state_after(self._house, self._grain, state, event)

    def _back_to(self, many):
        """Takes back all events but the first many."""
        self._states = self._states[:many + 1]
        self._log = self._log[:many]

    def ask(self, door):
        """A deed is asked at the door, now; its number."""
        return self.go(("ask", door))

    def wait(self, beats):
        """As many times the moment ends and the next one begins."""
        self.go(("wait", beats))

    def come(self, deed, place):
        """The deed's record comes to the place, now."""
        self.go(("come", deed, place))

    def hold(self, deed, place):
        """The deed's record no longer comes to the place by itself."""
        self.go(("hold", deed, place))

    def change(self, place, waits, stamps, limit):
        """The plan is extended, as told at the place."""
        self.go(("change", place, waits, stamps, limit))

    def go(self, event):
        """Does the event; for an ask the deed's number."""
        state = self._after(self._states[-1], event)
        self._states = self._states + (state,)
        self._log = self._log + (event,)
        return len(state[1]) - 1 if event[0] == "ask" else None

    def barred(self, event):
        """Why the event is not let, or None."""
        return reason_by(self._house, self._grain, self._states[-1], event)

    def do_all(self, events, keep=False):
        """Does the events; at the first that is not let, InvalidEvent, all of them undone unless keep is True."""
        need(isinstance(events, tuple), "events")
        done = len(self._log)
        for event in events:
            reason = self.barred(event)
            if reason is not None:
                if keep is not True:
                    self._back_to(done)
                raise InvalidEvent(event, reason)
            self.go(event)

    def tried(self, events):
        """The moment and the unanswered deeds as they would be behind the events; nothing is done."""
        need(isinstance(events, tuple), "events")
        state = self._states[-1]
        for event in events:
            state = self._after(state, event)
        return (state[4], waiting_in(self._house, self._grain, state))

    def undo(self, steps=1):
        """Takes back the last events, as many as steps."""
        need(is_integer(steps) and steps >= 1, "steps")
        if steps > len(self._log):
            raise NothingToUndo(steps)
        self._back_to(len(self._log) - steps)

    def log(self):
        """The events done and not taken back."""
        return self._log

    def _first(self):
        """The house, the grain and the first state, which has the first waits and stamps."""
        return (self._house, self._grain, self._states[0])

    def __eq__(self, other):
        return isinstance(other, LiveHouse) and self._first() == other._first() and self._log == other._log
