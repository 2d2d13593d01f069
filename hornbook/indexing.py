"""Finding the clauses that may have a unifier with a call, by the first nodes of their arguments."""

from hornbook.terms import is_variable, parts


def key(term):
    """Return the first node of a term, or None for a variable."""
    return None if is_variable(term[0]) else term[0]


def conflict(one, other):
    """Tell whether two keys conflict."""
    return one is not None and other is not None and one != other


def head_keys(head):
    """Return the list of the keys of the arguments of a head."""
    return [key(part) for part in parts(head)]


def is_candidate(keys, wanted):
    """Tell whether the keys of a head conflict with none of the keys that are wanted at some indexes."""
    for index, node in wanted.items():
        if conflict(node, keys[index]):
            return False
    return True


def candidates(clauses, arguments, plan):
    """Return the positions of the clauses that are candidates for a call with these arguments."""
    wanted = {index: key(arguments[index]) for index in plan if index < len(arguments)}
    return [
        position for position, (head, _) in enumerate(clauses)
        if is_candidate(head_keys(head), wanted)
    ]


def best_plan(clauses):
    """Return the argument indexes at which some head has an argument that is not a variable."""
    found = {}
    for head, _ in clauses:
        for index, node in enumerate(head_keys(head)):
            if node is not None:
                found[index] = True
    return tuple(sorted(list(found)))


def place_of(numbers, number):
    """Return the index of a number in an ascending list that has it."""
    low, high = 0, len(numbers) - 1
    while low < high:
        middle = (low + high) // 2
        if numbers[middle] < number:
            low = middle + 1
        else:
            high = middle
    return low


class Index:
    """An index of clauses at one argument index.

    Each clause has a rank, which never changes; the ranks are in the order of the
    clauses. `rows` has for each key the ascending list of the ranks of its clauses.
    """

    def __init__(self, clauses, argument):
        self._argument = argument
        self._ranks = []
        self._keys = {}
        self._rows = {}
        for clause in clauses:
            self.add_last(clause)

    def find(self, term):
        """Return the positions of the clauses whose key does not conflict with that of a term."""
        wanted = key(term)
        if wanted is None:
            return list(range(len(self._ranks)))
        ranks = self._rows.get(wanted, []) + self._rows.get(None, [])
        return [place_of(self._ranks, rank) for rank in sorted(ranks)]

    def add_first(self, clause):
        """Add a clause before all others."""
        rank = self._ranks[0] - 1 if len(self._ranks) > 0 else 0
        self._ranks.insert(0, rank)
        self._row_of(rank, clause).insert(0, rank)

    def add_last(self, clause):
        """Add a clause behind all others."""
        rank = self._ranks[-1] + 1 if len(self._ranks) > 0 else 0
        self._ranks.append(rank)
        self._row_of(rank, clause).append(rank)

    def remove_at(self, position):
        """Remove the clause with a position."""
        rank = self._ranks.pop(position)
        node = self._keys.pop(rank)
        row = self._rows[node]
        del row[place_of(row, rank)]
        if len(row) == 0:
            del self._rows[node]

    def _row_of(self, rank, clause):
        """Return the list of the ranks with the key of a clause, whose rank this is."""
        keys = head_keys(clause[0])
        # Beyond the arity there is nothing that conflicts with anything.
        node = keys[self._argument] if self._argument < len(keys) else None
        self._keys[rank] = node
        return self._rows.setdefault(node, [])
