"""A database of clauses, of which each call sees those that existed when it was opened."""

from hornbook.errors import Closed, Forgotten
from hornbook.program import head_and_body
from hornbook.terms import renumber


def united(spans):
    """Return pairs of generations, from one up to another, that together cover the same generations."""
    found = []
    for first, behind in sorted(spans):
        if len(found) > 0 and first <= found[-1][1]:
            found[-1] = (found[-1][0], max(found[-1][1], behind))
        else:
            found.append((first, behind))
    return found


class Database:
    """Clauses with their numbers, and the generations at which they exist.

    For each number of a clause that is stored, `_clauses` has its indicator and its term,
    `_births` and `_deaths` have the generations of its addition and its erasure. `_rows` has
    the numbers of each predicate in order, and `_gaps` the generations that cannot be asked
    any more. `_calls` has for each open call the numbers of the clauses that it did not
    return yet, the next one last, and whether it is one for erasure.
    """

    def __init__(self):
        self.generation = 0
        self._clauses = {}
        self._births = {}
        self._deaths = {}
        self._rows = {}
        self._gaps = {}
        self._calls = {}
        self._next_number = 0
        self._next_call = 0

    def add(self, clause, *, first=False):
        """Add a clause, and return its number."""
        head, _ = head_and_body(clause)
        _, name, arity = head[0]
        number = self._next_number
        self._next_number += 1
        self.generation += 1
        self._clauses[number] = ((name, arity), renumber(clause))
        self._births[number] = self.generation
        row = self._rows.setdefault((name, arity), [])
        if first:
            row.insert(0, number)
        else:
            row.append(number)
        return number

    def erase(self, number):
        """Erase a clause, and tell whether there was one with this number."""
        if not self._exists(number):
            return False
        self.generation += 1
        self._deaths[number] = self.generation
        return True

    def clauses(self, name, arity, *, at=None):
        """Return the numbers and clauses of a predicate at a generation, in order."""
        if at is None:
            at = self.generation
        if not 0 <= at <= self.generation:
            raise Forgotten("there is no such generation")
        for first, behind in self._gaps.get((name, arity), []):
            if first <= at < behind:
                raise Forgotten("a clause of this generation is not stored any more")
        return [
            (number, self._clauses[number][1]) for number in self._rows.get((name, arity), [])
            if self._births[number] <= at < self._deaths.get(number, at + 1)
        ]

    def predicates(self):
        """Return the sorted list of the indicators of which a clause exists."""
        return sorted(set([self._clauses[number][0] for number in self._clauses if self._exists(number)]))

    def open_call(self, name, arity, *, erasing=False):
        """Open a call of a predicate, and return its number."""
        call = self._next_call
        self._next_call += 1
        row = self._rows.get((name, arity), [])
        self._calls[call] = ([number for number in row[::-1] if self._exists(number)], erasing)
        return call

    def next_clause(self, call):
        """Return the number and the clause that a call returns next, or None and close it."""
        left, erasing = self._left(call)
        while len(left) > 0:
            number = left.pop()
            if not erasing or self._exists(number):
                return number, self._clauses[number][1]
        del self._calls[call]
        return None

    def close_call(self, call):
        """Close a call."""
        self._left(call)
        del self._calls[call]

    def sweep(self):
        """Remove the erased clauses that no open call can still return, and return their number."""
        needed = {number: True for left, erasing in self._calls.values() if not erasing for number in left}
        removed = {number: True for number in self._deaths if number not in needed}
        for number in removed:
            indicator, _ = self._clauses.pop(number)
            spans = self._gaps.get(indicator, [])
            self._gaps[indicator] = united([*spans, (self._births.pop(number), self._deaths.pop(number))])
        self._rows = {
            indicator: [number for number in row if number not in removed] for indicator, row in self._rows.items()
        }
        return len(removed)

    def stored(self):
        """Return the number of clauses that are stored."""
        return len(self._clauses)

    def twin(self):
        """Return a database that behaves as this one, and does not change with it."""
        other = Database()
        other.generation = self.generation
        other._clauses = {number: self._clauses[number] for number in self._clauses}
        other._births = dict(self._births)
        other._deaths = dict(self._deaths)
        other._rows = {indicator: list(row) for indicator, row in self._rows.items()}
        other._gaps = {indicator: list(spans) for indicator, spans in self._gaps.items()}
        other._calls = {call: (list(left), erasing) for call, (left, erasing) in self._calls.items()}
        other._next_number = self._next_number
        other._next_call = self._next_call
        return other

    def _exists(self, number):
        """Tell whether a clause with this number exists now."""
        return number in self._clauses and number not in self._deaths

    def _left(self, call):
        """Return what is left of an open call."""
        if call not in self._calls:
            raise Closed("no call with this number is open")
        return self._calls[call]
