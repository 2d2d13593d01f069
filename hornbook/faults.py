"""The terms of the errors that constructs and built-in predicates raise."""

from hornbook.terms import atom, compound, integer, list_term


def indicator(name, arity):
    """Return the term of an indicator."""
    return compound("/", atom(name), integer(arity))


def instantiation_error():
    """Return the error of a variable in a place where none may stand."""
    return atom("instantiation_error")


def kind_error(kind, term):
    """Return the error of a term that is not of a kind."""
    return compound("type_error", atom(kind), term)


def empty_list_error():
    """Return the error of an empty list in a place where none may stand."""
    return compound("domain_error", atom("list"), list_term([]))


def representation_error(limit):
    """Return the error of a limit that would be exceeded."""
    return compound("representation_error", atom(limit))


def permission_error(action, kind, name, arity):
    """Return the error of an action that a predicate does not permit."""
    return compound("permission_error", atom(action), atom(kind), indicator(name, arity))


def existence_error(name, arity):
    """Return the error of a predicate that does not exist."""
    return compound("existence_error", atom("procedure"), indicator(name, arity))
