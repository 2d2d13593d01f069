"""Definite clauses, and resolution with them."""

from hornbook.errors import NotDefinite, TooLarge
from hornbook.program import MOST_CLAUSES, MOST_CLAUSE_NODES, TRUE, is_built_in, is_control, split_clause
from hornbook.steps import CONJUNCTION
from hornbook.terms import end_of, is_symbol, next_number, renumber_together
from hornbook.unify import MOST_NODES, apply, unify


def check_goal(term):
    """Raise NotDefinite if a term cannot be a head, a goal or a query."""
    if not is_symbol(term[0]):
        raise NotDefinite("a variable or an integer is no goal")
    _, name, arity = term[0]
    if is_control(name, arity) or is_built_in(name, arity):
        raise NotDefinite(f"{name}/{arity} is no predicate of a definite program")


def goals_of(body):
    """Return the list of the goals of the body of a definite clause."""
    goals = []
    at = 0
    while at < len(body):
        end = at + 1
        if body[at] != CONJUNCTION:
            end = end_of(body, at)
            if body[at:end] != TRUE:
                check_goal(body[at:end])
                goals.append(body[at:end])
        at = end
    return goals


def head_and_goals(clause):
    """Return the pair of the head and the list of the goals of a definite clause."""
    if len(clause) > MOST_CLAUSE_NODES:
        raise NotDefinite("a clause has at most 200 nodes")
    head, body = split_clause(clause)
    check_goal(head)
    return head, goals_of(body)


def definite_clauses(program):
    """Return the pairs of the head and the goals of the clauses of a definite program."""
    if len(program) > MOST_CLAUSES:
        raise NotDefinite("a program has at most 200 clauses")
    return [head_and_goals(clause) for clause in program]


def renamed(clause, first):
    """Return a pair of a head and its goals with its variables numbered from first on."""
    head, goals = clause
    terms = renumber_together([head, *goals], first)
    return terms[0], terms[1:]


def check_size(size, most):
    """Raise TooLarge if the size of a term is greater than it may be."""
    if size > most:
        raise TooLarge(f"a term has more than {most} nodes")


def resolved(query, goals, pick, pair):
    """Return what resolve returns, for a pair of a head and its goals and without its checks."""
    if goals[pick][0] != pair[0][0]:
        return None
    head, own = renamed(pair, next_number([query, *goals]))
    unifier = unify(goals[pick], head)
    if unifier is None:
        return None
    terms = [apply(unifier, term) for term in [query, *goals[:pick], *own, *goals[pick + 1:]]]
    check_size(max([len(term) for term in terms]), MOST_NODES)
    terms = renumber_together(terms)
    return terms[0], terms[1:]


def resolve(query, goals, pick, clause):
    """Return the query and the goals after resolving one goal with a clause, or None."""
    check_goal(query)
    for goal in goals:
        check_goal(goal)
    return resolved(query, goals, pick, head_and_goals(clause))
