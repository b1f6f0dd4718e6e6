"""A shelf: the pools and sessions of a board, without its marks and its log."""

from askranges.errors import DuplicateName, InvalidKind, InvalidName, NoSession, SessionOpen, UnknownName
from askranges.itemtypes import Item
from askranges.pools import Pool
from askranges.sessions import LeastSession, OrderSession


class Shelf:
    """Pools by name, at most one session for each, and the amount that the finished ones spent."""

    def __init__(self):
        self._pools = {}
        # A session here is never answered or taken back: another one takes its place. So copies may share it.
        self._sessions = {}
        self._spent = 0

    @property
    def names(self):
        """The ascending list of the names of the pools."""
        return sorted(self._pools)

    @property
    def spent(self):
        """The sum of what all sessions spent that were finished."""
        return self._spent

    def pool_of(self, name):
        """Return a pool, with the answers of its session."""
        if not Item.is_name(name) or name not in self._pools:
            raise UnknownName("there is no pool of this name")
        if name in self._sessions:
            return self._sessions[name].pool
        return self._pools[name]

    def session_of(self, name):
        """Return a copy of the session of a pool."""
        self.pool_of(name)
        if name not in self._sessions:
            raise NoSession("the pool has no session")
        return self._sessions[name].copy()

    def copy(self):
        """Return an independent shelf with the same pools, sessions and amount."""
        other = Shelf()
        other._pools = dict(self._pools)
        other._sessions = dict(self._sessions)
        other._spent = self._spent
        return other

    def create(self, name):
        """Add an empty pool."""
        check_free(name, self._pools)
        self._pools[name] = Pool()

    def put(self, name, item, least, greatest, price=1):
        """Add an item to a pool, or replace it."""
        changed = self.pool_of(name).with_items(Item(item, least, greatest, price=price))
        self._check_closed(name)
        self._pools[name] = changed

    def take(self, name, item):
        """Remove an item from a pool."""
        changed = self.pool_of(name).without(item)
        self._check_closed(name)
        self._pools[name] = changed

    def begin(self, name, kind):
        """Start a session, and return the name of the item to ask."""
        pool = self.pool_of(name)
        if kind not in ("order", "least"):
            raise InvalidKind("a kind is order or least")
        self._check_closed(name)
        session = OrderSession(pool) if kind == "order" else LeastSession(pool)
        self._sessions[name] = session
        return session.next_ask

    def answer(self, name, value):
        """Answer the session of a pool, and return the name of the next item to ask."""
        session = self.session_of(name)
        session.answer(value)
        self._sessions[name] = session
        return session.next_ask

    def undo(self, name):
        """Take back the last answer of the session of a pool."""
        session = self.session_of(name)
        session.undo()
        self._sessions[name] = session

    def finish(self, name):
        """End the session of a pool, which keeps the answers, and return what the session spent."""
        session = self.session_of(name)
        del self._sessions[name]
        self._pools[name] = session.pool
        self._spent += session.spent
        return session.spent

    def drop(self, name):
        """Remove a pool and its session."""
        self.pool_of(name)
        del self._pools[name]
        self._sessions.pop(name, None)

    def _check_closed(self, name):
        """Raise SessionOpen if the pool has a session."""
        if name in self._sessions:
            raise SessionOpen("the pool has a session")


def check_free(thing, taken):
    """Raise InvalidName unless any object is a name, then DuplicateName if it is among these."""
    if not Item.is_name(thing):
        raise InvalidName("a name is one to eight letters from a to z")
    if thing in taken:
        raise DuplicateName(thing)
