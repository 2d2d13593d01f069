"""Operator tables."""

from hornbook.errors import BadOperator
from hornbook.terms import is_integer, is_name

MOST_PRIORITY = 1200
PLACES = {"fx": "prefix", "fy": "prefix", "xfx": "infix", "xfy": "infix", "yfx": "infix"}
# These are read and written in ways of their own.
RESERVED_NAMES = (",", "|", "[]", "{}")
INITIAL = {
    (":-", "infix"): (1200, "xfx"),
    (";", "infix"): (1100, "xfy"),
    ("->", "infix"): (1050, "xfy"),
    (",", "infix"): (1000, "xfy"),
    ("=", "infix"): (700, "xfx"),
    ("\\=", "infix"): (700, "xfx"),
    ("==", "infix"): (700, "xfx"),
    ("\\==", "infix"): (700, "xfx"),
    ("@<", "infix"): (700, "xfx"),
    ("is", "infix"): (700, "xfx"),
    ("=:=", "infix"): (700, "xfx"),
    ("<", "infix"): (700, "xfx"),
    ("=<", "infix"): (700, "xfx"),
    ("=..", "infix"): (700, "xfx"),
    ("in", "infix"): (700, "xfx"),
    ("..", "infix"): (450, "xfx"),
    ("+", "infix"): (500, "yfx"),
    ("-", "infix"): (500, "yfx"),
    ("*", "infix"): (400, "yfx"),
    ("//", "infix"): (400, "yfx"),
    ("mod", "infix"): (400, "yfx"),
    ("^", "infix"): (200, "xfy"),
    (":-", "prefix"): (1200, "fx"),
    ("\\+", "prefix"): (900, "fy"),
    ("-", "prefix"): (200, "fy"),
}


def initial_table():
    """Return the initial operator table."""
    return {key: INITIAL[key] for key in INITIAL}


def left_limit(operator):
    """Return the greatest priority of the left argument of an infix operator."""
    priority, form = operator
    return priority if form == "yfx" else priority - 1


def right_limit(operator):
    """Return the greatest priority of the last argument of an operator."""
    priority, form = operator
    return priority if form in ("fy", "xfy") else priority - 1


def is_operator_name(name):
    """Tell whether a name may be that of an operator that is added, changed or removed."""
    return is_name(name) and name not in RESERVED_NAMES


def with_operator(table, priority, form, name):
    """Return a table with one more or one changed operator, or without one."""
    if not is_integer(priority) or not 0 <= priority <= MOST_PRIORITY:
        raise BadOperator("a priority is an integer from 0 to 1200")
    if not isinstance(form, str) or form not in PLACES:
        raise BadOperator("the form of an operator is fx, fy, xfx, xfy or yfx")
    if not is_operator_name(name):
        raise BadOperator("an operator cannot have this name")
    changed = {key: table[key] for key in table}
    if priority > 0:
        changed[(name, PLACES[form])] = (priority, form)
    else:
        changed.pop((name, PLACES[form]), None)
    return changed
