"""The answers of the built-in predicates tabled and solve."""

from hornbook.definite import goals_of
from hornbook.errors import NotDefinite, TooMany
from hornbook.faults import existence_error, indicator, instantiation_error, kind_error
from hornbook.posing import pose
from hornbook.program import is_built_in, is_control
from hornbook.solving import solutions
from hornbook.tables import Tabling
from hornbook.terms import integer, is_integer, is_symbol, is_variable, list_items, list_term, renumber

MOST_SOLUTIONS = 200


def definite_predicate(symbol, program):
    """Return the error that a predicate raises in tables, or None, and its heads with their goals."""
    _, name, arity = symbol
    if is_control(name, arity) or is_built_in(name, arity):
        return kind_error("definite", indicator(name, arity)), []
    pairs = program.predicate(name, arity)
    if len(pairs) == 0 and not program.is_dynamic(name, arity):
        return existence_error(name, arity), []
    try:
        return None, [(head, goals_of(body)) for head, body in pairs]
    except NotDefinite:
        return kind_error("definite", indicator(name, arity)), []


def needed_clauses(goal, program):
    """Return an error or None, and the clauses of all predicates that a goal needs."""
    # The symbols of the predicates, in the order in which they are met.
    met = {goal[0]: True}
    waiting = [goal[0]]
    found = []
    while len(waiting) > 0:
        symbol = waiting.pop(0)
        error, clauses = definite_predicate(symbol, program)
        if error is not None:
            return error, []
        found.extend(clauses)
        for _, goals in clauses:
            for other in goals:
                if other[0] not in met:
                    met[other[0]] = True
                    waiting.append(other[0])
    return None, found


def tabled_answers(goal, program):
    """Return an error or None, and the answers of a goal in its tables."""
    if is_variable(goal[0]):
        return instantiation_error(), []
    if not is_symbol(goal[0]):
        return kind_error("callable", goal), []
    error, clauses = needed_clauses(goal, program)
    if error is not None:
        return error, []
    found = Tabling(clauses, by_cost=False)
    found.run(goal)
    return None, found.answers_of(renumber(goal))


def first_wrong(wanted, numbers):
    """Return the first term that is no integer and none of the variables, or None."""
    for term in wanted:
        if not is_integer(term[0]) and not (is_variable(term[0]) and term[0][1] in numbers):
            return term
    return None


def solved_lists(wanted, constraints):
    """Return an error or None, and the lists of values of the solutions, as terms."""
    wanted, constraints = list_items(wanted), list_items(constraints)
    if wanted is None or constraints is None:
        return instantiation_error(), []
    posed = pose(constraints)
    if not isinstance(posed[0], list):
        return posed, []
    numbers, domains, others = posed
    wrong = first_wrong(wanted, numbers)
    if wrong is not None:
        return kind_error("variable", wrong), []
    found = solutions(domains, others, most=MOST_SOLUTIONS + 1)
    if len(found) > MOST_SOLUTIONS:
        raise TooMany("a problem has more than 200 solutions")
    places = {number: place for place, number in enumerate(numbers)}
    rows = [
        tuple([term[0] if is_integer(term[0]) else chosen[places[term[0][1]]] for term in wanted])
        for chosen in found
    ]
    return None, [list_term([integer(value) for value in row]) for row in sorted(set(rows))]
