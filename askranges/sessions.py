"""Sessions: asking one item after the other, without knowing the values."""

from askranges.errors import NotDone, NothingToUndo, SessionDone
from askranges.minimum import sure_least
from askranges.sorting import sure_order


class Step:
    """What a session knows at one point, and what it has chosen to ask then."""

    def __init__(self, known, left, chosen):
        self.known = known
        # The remaining price of each item.
        self.left = dict(left)
        self.ask = None
        self.cost = 0
        self.payment = None
        # The remaining price of a forced ask.
        self.forced = 0
        if len(chosen) == 1:
            self.ask = chosen[0]
            self.forced = left[self.ask]
        elif len(chosen) == 2:
            self._pay(min(chosen), max(chosen))
        if self.ask is not None:
            self.cost = known.item(self.ask).price

    def _pay(self, first, second):
        """Pay as much as possible on a pair, and ask the item that has nothing left."""
        amount = min(self.left[first], self.left[second])
        self.left[first] -= amount
        self.left[second] -= amount
        self.ask = first if self.left[first] == 0 else second
        if amount > 0:
            self.payment = (first, second, amount)


class Session:
    """The base of all sessions, which itself has nothing to ask."""

    def __init__(self, pool):
        prices = {name: pool.item(name).price for name in pool.names}
        # One step ahead of each answer that was given, and the present one. No step is ever changed.
        self._steps = [Step(pool, prices, self._choose(pool))]

    @property
    def pool(self):
        """The pool with the answers so far."""
        return self._steps[-1].known

    @property
    def next_ask(self):
        """The name of the item to ask, or None if the session is done."""
        return self._steps[-1].ask

    @property
    def is_done(self):
        """True if there is nothing to ask."""
        return self._steps[-1].ask is None

    @property
    def asked(self):
        """The list of the names that were answered, in this order."""
        return [step.ask for step in self._steps[:-1]]

    @property
    def spent(self):
        """The sum of the prices of the items that were answered."""
        return sum([step.cost for step in self._steps[:-1]])

    @property
    def payments(self):
        """The list of the tuples (first, second, amount), in the order in which they were made."""
        return [step.payment for step in self._steps if step.payment is not None]

    @property
    def bound(self):
        """A price that no set of items which settles the task can go below."""
        paid = [step.payment[2] for step in self._steps if step.payment is not None]
        return sum(paid) + sum([step.forced for step in self._steps[:-1]])

    def answer(self, value):
        """Tell the value of the item to ask."""
        step = self._steps[-1]
        if step.ask is None:
            raise SessionDone("there is nothing to ask")
        known = step.known.told({step.ask: value})
        self._steps.append(Step(known, step.left, self._choose(known)))

    def undo(self):
        """Take back the last answer."""
        if len(self._steps) == 1:
            raise NothingToUndo("no answer was given")
        del self._steps[-1]

    def result(self):
        """Return None, as there is nothing to find out."""
        return None

    def copy(self):
        """Return an independent session in the same state."""
        return self._give_state(Session(self.pool))

    def _choose(self, pool):
        """Return the names to choose from: none if the session is done, a forced one, or those of a pair."""
        return []

    def _give_state(self, other):
        """Bring another session of the same class into this state, and return it."""
        other._steps = list(self._steps)
        return other

    def _check_done(self):
        """Raise NotDone unless there is nothing to ask."""
        if not self.is_done:
            raise NotDone("there is something to ask")


class OrderSession(Session):
    """A session that finds the order of all items."""

    def result(self):
        """Return the sure order."""
        self._check_done()
        return sure_order(self.pool)

    def copy(self):
        """Return an independent session in the same state."""
        return self._give_state(OrderSession(self.pool))

    def _choose(self, pool):
        """Return the smallest name of an open item with one inside, or else those of the first loose pair."""
        exact = [item for item in pool.walk() if item.is_exact]
        for name in pool.names:
            if any([pool.item(name).is_loose_with(other) for other in exact]):
                return [name]
        for pair in pool.loose_pairs():
            return list(pair)
        return []


class LeastSession(Session):
    """A session that finds the least item."""

    def result(self):
        """Return the name of the sure least item, or None for an empty pool."""
        self._check_done()
        return sure_least(self.pool)

    def copy(self):
        """Return an independent session in the same state."""
        return self._give_state(LeastSession(self.pool))

    def _choose(self, pool):
        """Return the names of the two items with the least possible values, or that of the one that must be asked."""
        if len(pool) == 0 or sure_least(pool) is not None:
            return []
        first, second = list(pool.walk())[:2]
        if first.is_exact:
            return [name for name in pool.names if pool.item(name).is_loose_with(first)][:1]
        if second.is_exact:
            return [first.name]
        return [first.name, second.name]
