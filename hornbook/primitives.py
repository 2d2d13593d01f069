"""The built-in predicates.

Each of the functions that performs one gets the list of its arguments, the next
variable number and the program, and returns a result as perform does.
"""

from hornbook.alternatives import solved_lists, tabled_answers
from hornbook.arithmetic import evaluate
from hornbook.errors import TooLarge
from hornbook.faults import (
    empty_list_error, instantiation_error, kind_error, permission_error, representation_error,
)
from hornbook.operators import initial_table
from hornbook.order import compare, sort_terms
from hornbook.program import (
    CLAUSE_SYMBOL, MOST_CLAUSES, MOST_CLAUSE_NODES, TRUE, is_built_in, is_control, split_clause,
)
from hornbook.terms import (
    MOST_ARITY, arity_of, atom, integer, is_atom, is_integer, is_symbol, is_variable, list_items, list_term, parts,
    renumber, variables,
)
from hornbook.unify import unify
from hornbook.writer import write


def truth(value):
    """Return the result of a test."""
    return ("true",) if value else ("fail",)


def do_unify(words, first, program):
    """Unify two terms: the predicate `=`."""
    return ("unify", words[0], words[1], first)


def do_not_unify(words, first, program):
    """Tell whether two terms have no unifier."""
    return truth(unify(words[0], words[1]) is None)


def do_equal(words, first, program):
    """Tell whether two terms are equal."""
    return truth(words[0] == words[1])


def do_not_equal(words, first, program):
    """Tell whether two terms are not equal."""
    return truth(words[0] != words[1])


def do_before(words, first, program):
    """Tell whether one term comes before the other in the standard order."""
    order = compare(words[0], words[1])
    if order is None:
        return ("raise", instantiation_error())
    return truth(order == -1)


def do_compare(words, first, program):
    """Unify the first argument with the order of the other two."""
    order = compare(words[1], words[2])
    if order is None:
        return ("raise", instantiation_error())
    return ("unify", words[0], atom({-1: "<", 0: "=", 1: ">"}[order]), first)


def do_var(words, first, program):
    """Tell whether a term is a variable."""
    return truth(is_variable(words[0][0]))


def do_nonvar(words, first, program):
    """Tell whether a term is no variable."""
    return truth(not is_variable(words[0][0]))


def do_atom(words, first, program):
    """Tell whether a term is an atom."""
    return truth(is_atom(words[0]))


def do_integer(words, first, program):
    """Tell whether a term is an integer."""
    return truth(is_integer(words[0][0]))


def do_callable(words, first, program):
    """Tell whether a term is callable."""
    return truth(is_symbol(words[0][0]))


def name_of(term):
    """Return the name of a term as an atom, or the integer itself."""
    return atom(term[0][1]) if is_symbol(term[0]) else term


def functor_error(name, arity):
    """Return the error of functor with a name and an arity from which to make a term, or None."""
    if is_variable(name[0]) or is_variable(arity[0]):
        return instantiation_error()
    if not is_integer(arity[0]):
        return kind_error("integer", arity)
    if not 0 <= arity[0] <= MOST_ARITY:
        return representation_error("arity")
    if arity_of(name[0]) > 0 or (is_integer(name[0]) and arity[0] > 0):
        return kind_error("atom", name)
    return None


def do_functor(words, first, program):
    """Unify a term with its name and arity, or make one: functor(T, N, A)."""
    term, name, arity = words
    if not is_variable(term[0]):
        pair = (("f", ",", 2),)
        return ("unify", pair + name + arity, pair + name_of(term) + integer(arity_of(term[0])), first)
    error = functor_error(name, arity)
    if error is not None:
        return ("raise", error)
    count = arity[0]
    if count == 0:
        return ("unify", term, name, first)
    made = (("f", name[0][1], count), *[("v", first + at) for at in range(count)])
    return ("unify", term, made, first + count)


def do_arg(words, first, program):
    """Unify a term with an argument of another one: arg(I, T, X)."""
    place, term, value = words
    if is_variable(place[0]) or is_variable(term[0]):
        return ("raise", instantiation_error())
    if not is_integer(place[0]):
        return ("raise", kind_error("integer", place))
    if arity_of(term[0]) == 0:
        return ("raise", kind_error("compound", term))
    if not 1 <= place[0] <= arity_of(term[0]):
        return ("fail",)
    return ("unify", value, parts(term)[place[0] - 1], first)


def univ_error(given):
    """Return the error of a list from which =.. cannot make a term, or None.

    `given` has its elements, or is None if it is no list.
    """
    if given is None or (len(given) > 0 and is_variable(given[0][0])):
        return instantiation_error()
    if len(given) == 0:
        return empty_list_error()
    if len(given) > MOST_ARITY + 1:
        return representation_error("arity")
    if len(given) > 1 and not is_atom(given[0]):
        return kind_error("atom", given[0])
    return None


def do_univ(words, first, program):
    """Unify a term with the list of its name and arguments: T =.. L."""
    term, given = words
    if not is_variable(term[0]):
        return ("unify", given, list_term([name_of(term), *parts(term)]), first)
    given = list_items(given)
    error = univ_error(given)
    if error is not None:
        return ("raise", error)
    made = given[0]
    if len(given) > 1:
        made = (("f", made[0][1], len(given) - 1), *[node for part in given[1:] for node in part])
    return ("unify", term, made, first)


def do_copy_term(words, first, program):
    """Unify a term with another one in which the variables are new: copy_term(T, U)."""
    return ("unify", words[1], renumber(words[0], first), first + len(variables(words[0])))


def do_sort(words, first, program):
    """Unify a term with a sorted list: sort(L, M)."""
    given = list_items(words[0])
    ordered = None if given is None else sort_terms(given, unique=True)
    if ordered is None:
        return ("raise", instantiation_error())
    return ("unify", words[1], list_term(ordered), first)


def do_is(words, first, program):
    """Unify a term with the value of an expression: X is E."""
    value = evaluate(words[1])
    if not is_integer(value):
        return ("raise", value)
    return ("unify", words[0], integer(value), first)


def difference(words):
    """Return the difference of the values of two expressions, or the error of the first wrong one."""
    left = evaluate(words[0])
    if not is_integer(left):
        return left
    right = evaluate(words[1])
    return left - right if is_integer(right) else right


def do_same_value(words, first, program):
    """Tell whether two expressions have the same value."""
    found = difference(words)
    return truth(found == 0) if is_integer(found) else ("raise", found)


def do_less(words, first, program):
    """Tell whether the value of one expression is less than that of the other one."""
    found = difference(words)
    return truth(found < 0) if is_integer(found) else ("raise", found)


def do_at_most(words, first, program):
    """Tell whether the value of one expression is at most that of the other one."""
    found = difference(words)
    return truth(found <= 0) if is_integer(found) else ("raise", found)


def do_write(words, first, program):
    """Write a term."""
    return ("write", write(words[0], initial_table()))


def do_nl(words, first, program):
    """Write the end of a line."""
    return ("write", "\n")


def clause_error(clause, program, action, kind):
    """Return the error of a clause that cannot be added or looked for, or None."""
    head, _ = split_clause(clause)
    if is_variable(head[0]):
        return instantiation_error()
    if not is_symbol(head[0]):
        return kind_error("callable", head)
    _, name, arity = head[0]
    if is_control(name, arity) or is_built_in(name, arity) or not program.is_dynamic(name, arity):
        return permission_error(action, kind, name, arity)
    return None


def added(clause, program, first, to_front):
    """Return the result of adding a clause."""
    error = clause_error(clause, program, "modify", "static_procedure")
    if error is None and len(program.clauses()) >= MOST_CLAUSES:
        error = representation_error("clauses")
    if error is not None:
        return ("raise", error)
    if len(clause) > MOST_CLAUSE_NODES:
        raise TooLarge("a clause has at most 200 nodes")
    return ("change", program.with_clause(clause, first=to_front), TRUE, TRUE, first)


def do_asserta(words, first, program):
    """Add a clause as the first one."""
    return added(words[0], program, first, True)


def do_assertz(words, first, program):
    """Add a clause as the last one."""
    return added(words[0], program, first, False)


def do_retract(words, first, program):
    """Remove the first clause that has a unifier with a term."""
    error = clause_error(words[0], program, "access", "private_procedure")
    if error is not None:
        return ("raise", error)
    head, body = split_clause(words[0])
    _, name, arity = head[0]
    wanted = (CLAUSE_SYMBOL, *head, *body)
    for position, pair in enumerate(program.predicate(name, arity)):
        stored = renumber((CLAUSE_SYMBOL, *pair[0], *pair[1]), first)
        if unify(wanted, stored) is not None:
            smaller = program.without(name, arity, position)
            return ("change", smaller, wanted, stored, first + len(variables(stored)))
    return ("fail",)


def offered(error, term, answers, first):
    """Return the result of an error, or else of answers that are tried for a term."""
    if error is not None:
        return ("raise", error)
    apart = []
    for answer in answers:
        apart.append(renumber(answer, first))
        first += len(variables(answer))
    return ("alternatives", term, apart, first)


def do_tabled(words, first, program):
    """Try the answers of a goal in its tables."""
    error, answers = tabled_answers(words[0], program)
    return offered(error, words[0], answers, first)


def do_solve(words, first, program):
    """Try the values that satisfy constraints."""
    error, answers = solved_lists(words[0], words[1])
    return offered(error, words[0], answers, first)


ACTIONS = {
    ("=", 2): do_unify, ("\\=", 2): do_not_unify, ("==", 2): do_equal, ("\\==", 2): do_not_equal,
    ("@<", 2): do_before, ("compare", 3): do_compare, ("var", 1): do_var, ("nonvar", 1): do_nonvar,
    ("atom", 1): do_atom, ("integer", 1): do_integer, ("callable", 1): do_callable,
    ("functor", 3): do_functor, ("arg", 3): do_arg, ("=..", 2): do_univ, ("copy_term", 2): do_copy_term,
    ("sort", 2): do_sort, ("is", 2): do_is, ("=:=", 2): do_same_value, ("<", 2): do_less,
    ("=<", 2): do_at_most, ("write", 1): do_write, ("nl", 0): do_nl, ("asserta", 1): do_asserta,
    ("assertz", 1): do_assertz, ("retract", 1): do_retract, ("tabled", 1): do_tabled, ("solve", 2): do_solve,
}


def perform(goal, first, program):
    """Perform a goal of a built-in predicate, and return what it leads to."""
    _, name, arity = goal[0]
    action = ACTIONS[name, arity]
    return action(parts(goal), first, program)
