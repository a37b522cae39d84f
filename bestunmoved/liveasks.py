"""What can be asked of an open house."""

from bestunmoved.helpers import need_below
from bestunmoved.livestates import waiting_in
from bestunmoved.planruns import plan_answers, run_by_plan, spoilt_by_plan


class LiveAsks:
    """What can be asked of an open house; never made by itself."""

    def __init__(self, house, grain, first):
        self._house = house
        self._grain = grain
        # The first state, and the one behind each event of the log.
        self._states = (first,)
        self._log = ()

    def _run(self):
        """The history, as it would be if all unanswered deeds were answered by what has come."""
        plan, asks, news, _, _ = self._states[-1]
        return run_by_plan(self._house, self._grain, plan, asks, news)

    def now(self):
        """The moment."""
        return self._states[-1][4]

    def plan_now(self):
        """The plan."""
        return self._states[-1][0]

    def asks_now(self):
        """The asks."""
        return self._states[-1][1]

    def news_now(self):
        """The news, None where the record has not come."""
        return self._states[-1][2]

    def held_now(self):
        """The records that are held, pairs (deed, place), ascending."""
        return self._states[-1][3]

    def due_at(self, deed):
        """When the deed is answered."""
        need_below(len(self.asks_now()), deed, "deed")
        return plan_answers(self._house, self._grain, self.plan_now(), self.asks_now())[deed]

    def shown(self, deed):
        """What the deed shows, None while it is unanswered."""
        need_below(len(self.asks_now()), deed, "deed")
        return None if deed in self.waiting() else self._run()[deed][3]

    def waiting(self):
        """The lot of the unanswered deeds."""
        return waiting_in(self._house, self._grain, self._states[-1])

    def spoilt(self):
        """The lot of the spoilt deeds among those that are answered."""
        plan, asks, news, _, _ = self._states[-1]
        waiting = self.waiting()
        spoilt = spoilt_by_plan(self._house, self._grain, plan, asks, news)
        return tuple([deed for deed in spoilt if deed not in waiting])

    def history(self):
        """The history, None while a deed is unanswered."""
        return self._run() if self.waiting() == () else None
