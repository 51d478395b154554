"""Tables of strings and values that never change, and share what they have in common."""


class KeptTable:
    """A table of strings as keys and any values, as a balanced binary tree."""

    def __init__(self, key, worth, left, right):
        self.key = key
        self.worth = worth
        self.left = left
        self.right = right
        if left is None:
            self.size = 0
            self.height = 0
        else:
            self.size = left.size + 1 + right.size
            self.height = 1 + max(left.height, right.height)

    @staticmethod
    def empty():
        """The empty table."""
        return KeptTable(None, None, None, None)

    def __contains__(self, key):
        return _table_of(self, key).size > 0

    def worth_of(self, key, other=None):
        """The worth of a key, or another value, if the key is not there."""
        found = _table_of(self, key)
        return found.worth if found.size > 0 else other

    def put(self, key, worth):
        """A table with the key set."""
        if self.size == 0:
            return KeptTable(key, worth, self, self)
        if key < self.key:
            return _balanced(self, self.left.put(key, worth), self.right)
        if key > self.key:
            return _balanced(self, self.left, self.right.put(key, worth))
        return KeptTable(key, worth, self.left, self.right)

    def without(self, key):
        """A table without the key."""
        if key not in self:
            return self
        if key < self.key:
            return _balanced(self, self.left.without(key), self.right)
        if key > self.key:
            return _balanced(self, self.left, self.right.without(key))
        if self.right.size == 0:
            return self.left
        first = self.right
        while first.left.size > 0:
            first = first.left
        return _balanced(first, self.left, self.right.without(first.key))

    def pairs(self):
        """The pairs (key, worth) in ascending order of the keys."""
        found = []
        waiting = []
        table = self
        while table.size > 0 or waiting:
            if table.size > 0:
                waiting.append(table)
                table = table.left
            else:
                last = waiting.pop()
                found.append((last.key, last.worth))
                table = last.right
        return found


def _table_of(table, key):
    """The table inside a table that has the key itself, or an empty one."""
    while table.size > 0 and table.key != key:
        table = table.left if key < table.key else table.right
    return table


def _balanced(top, left, right):
    """A table with the key and the worth of another one, of two tables whose heights differ by at most 2."""
    if left.height > right.height + 1:
        if left.left.height < left.right.height:
            return _with(left.right, _with(left, left.left, left.right.left), _with(top, left.right.right, right))
        return _with(left, left.left, _with(top, left.right, right))
    if right.height > left.height + 1:
        if right.right.height < right.left.height:
            return _with(right.left, _with(top, left, right.left.left), _with(right, right.left.right, right.right))
        return _with(right, _with(top, left, right.left), right.right)
    return _with(top, left, right)


def _with(top, left, right):
    """A table with the key and the worth of another one, and other tables inside it."""
    return KeptTable(top.key, top.worth, left, right)


def fresh_tables(old, new):
    """The number of the tables in a table, itself included, that are not in an older one; empty ones do not count."""
    known = {table: True for table in _tables_in(old)}
    return len([table for table in _tables_in(new) if table not in known])


def _tables_in(table):
    """All tables in a table that are not empty, itself included."""
    found = []
    waiting = [table]
    while waiting:
        last = waiting.pop()
        if last.size > 0:
            found.append(last)
            waiting.append(last.left)
            waiting.append(last.right)
    return found
