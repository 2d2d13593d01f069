"""The meaning of a program: the search of a query, step by step."""

from hornbook.calls import called_goal
from hornbook.errors import TooLarge
from hornbook.faults import existence_error, indicator, instantiation_error
from hornbook.linked import Linked, instantiated, most_nodes
from hornbook.primitives import perform
from hornbook.program import TRUE, goal_form, is_built_in, is_control
from hornbook.steps import CONDITION, FAIL
from hornbook.terms import (
    compound, is_variable, list_term, next_number, parts, renumber, renumber_together, variable, variables,
)
from hornbook.unify import MOST_NODES, apply, unify


def goal_item(goal, level, rest):
    """Return a list of items that begins with a goal and its level."""
    return Linked(("goal", level), (goal,), rest)


def marker(word, number, rest, terms=()):
    """Return a list of items that begins with a marker."""
    return Linked((word, number), terms, rest)


class Search:
    """A search of a query.

    A choice point is a tuple: ("items", items), ("clauses", goal, clauses, at, rest) with
    the index of the next clause, ("catch", catcher, recovery, rest), or
    ("findall", found, result, rest) with the list of the terms that were found so far.
    """

    def __init__(self, program, query):
        self._program = program
        self._events = []
        self._ended = False
        self._choices = []
        self._next = next_number([query])
        goal = goal_form(query)
        answer = tuple([variable(number) for number in sorted(variables(query))])
        self._items = goal_item(goal, 0, marker("answer", 0, None, answer))
        if len(goal) > MOST_NODES:
            self._end(("limit",))

    def step(self):
        """Perform one step, if the search has not ended."""
        if self._ended:
            return
        try:
            self._take_first()
        except TooLarge:
            self._end(("limit",))
        if not self._ended and most_nodes(self._items) > MOST_NODES:
            self._end(("limit",))

    def run(self, steps):
        """Perform at most so many steps, and return all events so far."""
        while steps > 0 and not self._ended:
            self.step()
            steps -= 1
        return [("answer", list(event[1])) if event[0] == "answer" else event for event in self._events]

    def ended(self):
        """Tell whether the search has ended."""
        return self._ended

    def program(self):
        """Return a program with the current clauses."""
        return self._program

    def depth(self):
        """Return the number of choice points."""
        return len(self._choices)

    def _end(self, event):
        """Add the last event."""
        self._events.append(event)
        self._ended = True

    def _take_first(self):
        """Take the first item from the list, and do what it says."""
        word, number = self._items.mark
        terms, rest = self._items.terms, self._items.rest
        if word == "goal":
            self._call(terms[0], number, rest)
        elif word == "answer":
            self._events.append(("answer", renumber_together(terms)))
            self._backtrack()
        elif word == "found":
            found = self._choices[number][1]
            found.append(renumber(terms[0]))
            self._backtrack()
        else:
            if word == "commit":
                self._cut(number)
            self._items = rest

    def _cut(self, count):
        """Remove all choice points but the lowest ones, so many."""
        del self._choices[count:]

    def _call(self, goal, level, rest):
        """Call a goal."""
        _, name, arity = goal[0]
        if is_control(name, arity):
            self._construct(goal, level, rest)
        elif is_built_in(name, arity):
            self._built_in(goal, rest)
        else:
            clauses = self._program.predicate(name, arity)
            if len(clauses) == 0 and not self._program.is_dynamic(name, arity):
                self._raise(existence_error(name, arity), goal, rest)
            elif not self._try(goal, clauses, 0, rest):
                self._backtrack()

    def _construct(self, goal, level, rest):
        """Call a control construct."""
        name = goal[0][1]
        words = parts(goal)
        count = len(self._choices)
        if name == "true":
            self._items = rest
        elif name == "fail":
            self._backtrack()
        elif name == "!":
            self._cut(level)
            self._items = rest
        elif name == ",":
            self._items = goal_item(words[0], level, goal_item(words[1], level, rest))
        elif name == "->":
            self._condition(words[0], words[1], FAIL, level, rest)
        elif name == ";":
            self._disjunction(words[0], words[1], level, rest)
        elif name == "\\+":
            self._choices.append(("items", rest))
            self._items = goal_item(words[0], count + 1, marker("commit", count, goal_item(FAIL, count, rest)))
        elif name == "call":
            self._call_with(goal, words, rest)
        elif name == "catch":
            self._choices.append(("catch", words[1], words[2], rest))
            self._items = goal_item(goal_form(words[0]), count + 1, marker("exit", count, rest))
        elif name == "findall":
            self._choices.append(("findall", [], words[2], rest))
            self._items = goal_item(goal_form(words[1]), count + 1, marker("found", count, rest, (words[0],)))
        elif is_variable(words[0][0]):
            self._raise(instantiation_error(), goal, rest)
        else:
            self._throw(words[0], rest)

    def _condition(self, condition, then, otherwise, level, rest):
        """Call an if-then-else."""
        count = len(self._choices)
        self._choices.append(("items", goal_item(otherwise, level, rest)))
        then = goal_item(then, level, rest)
        self._items = goal_item(condition, count + 1, marker("commit", count, then))

    def _disjunction(self, left, right, level, rest):
        """Call a disjunction, which may be an if-then-else."""
        if left[0] == CONDITION:
            words = parts(left)
            self._condition(words[0], words[1], right, level, rest)
        else:
            self._choices.append(("items", goal_item(right, level, rest)))
            self._items = goal_item(left, level, rest)

    def _call_with(self, goal, words, rest):
        """Call the first argument of a goal of call with the other ones added at its end."""
        error, called = called_goal(words)
        if error is not None:
            self._raise(error, goal, rest)
        else:
            self._items = goal_item(called, len(self._choices), rest)

    def _built_in(self, goal, rest):
        """Call a built-in predicate."""
        result = perform(goal, self._next, self._program)
        word = result[0]
        if word == "fail":
            self._backtrack()
        elif word == "raise":
            self._raise(result[1], goal, rest)
        elif word == "unify":
            self._unify(result[1], result[2], result[3], rest)
        elif word == "change":
            self._program = result[1]
            self._unify(result[2], result[3], result[4], rest)
        elif word == "alternatives":
            self._next = result[3]
            if not self._try(result[1], [(term, TRUE) for term in result[2]], 0, rest):
                self._backtrack()
        else:
            if word == "write":
                self._events.append(result)
            self._items = rest

    def _unify(self, left, right, first, rest):
        """Continue with nothing if two terms have a unifier, and substitute."""
        self._next = first
        unifier = unify(left, right)
        if unifier is None:
            self._backtrack()
        else:
            self._items = instantiated(rest, unifier)

    def _renamed(self, terms):
        """Return the terms with their variables replaced by new ones."""
        found = renumber_together(terms, self._next)
        self._next = max(self._next, next_number(found))
        return found

    def _try(self, goal, clauses, at, rest):
        """Try the clauses from an index on, and tell whether the head of one has a unifier with the goal."""
        level = len(self._choices)
        while at < len(clauses):
            head, body = self._renamed(clauses[at])
            at += 1
            if at < len(clauses):
                self._choices.append(("clauses", goal, clauses, at, rest))
            unifier = unify(goal, head)
            if unifier is not None:
                self._items = instantiated(goal_item(goal_form(body), level, rest), unifier)
                return True
            self._cut(level)
        return False

    def _backtrack(self):
        """Go back to the highest choice point from which the search can continue."""
        while len(self._choices) > 0:
            choice = self._choices.pop()
            if choice[0] == "items":
                self._items = choice[1]
                return
            if choice[0] == "clauses" and self._try(choice[1], choice[2], choice[3], choice[4]):
                return
            if choice[0] == "findall" and self._collect(choice[1], choice[2], choice[3]):
                return
        self._end(("end",))

    def _collect(self, found, result, rest):
        """Unify the list of the terms that findall has found with its result, and tell if it succeeds."""
        whole = list_term([self._renamed([term])[0] for term in found])
        if len(whole) > MOST_NODES:
            raise TooLarge("the list of findall has more than 200 nodes")
        unifier = unify(whole, result)
        if unifier is None:
            return False
        self._items = instantiated(rest, unifier)
        return True

    def _raise(self, error, goal, rest):
        """Throw the term for an error of a goal."""
        _, name, arity = goal[0]
        self._throw(compound("error", error, indicator(name, arity)), rest)

    def _throw(self, ball, rest):
        """Throw a term."""
        if len(ball) > MOST_NODES:
            raise TooLarge("a term that is thrown has more than 200 nodes")
        ball = self._renamed([ball])[0]
        while rest is not None:
            word, number = rest.mark
            if word == "exit":
                _, catcher, recovery, behind = self._choices[number]
                self._cut(number)
                unifier = unify(catcher, ball)
                if unifier is not None:
                    recovery = goal_form(apply(unifier, recovery))
                    self._items = goal_item(recovery, number, instantiated(behind, unifier))
                    return
            rest = rest.rest
        self._end(("error", renumber(ball)))
