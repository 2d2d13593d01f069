"""Writing terms as text.

A piece is what is known of a term that is written: (text, priority, form, kind), where
the form is that of its operator, or "", and the kind is "integer", "operator" (an atom
that is an operator), "list" (an atom or a compound term in brackets) or "plain".
"""

from hornbook.errors import BadText
from hornbook.operators import left_limit, right_limit
from hornbook.terms import LIST_CELL, arity_of, is_symbol, is_variable, renumber
from hornbook.tokens import tokens

ARGUMENT_PRIORITY = 999


def is_bare(name):
    """Tell whether a name is written without quotes as the name of a symbol."""
    if name == ",":
        return False
    try:
        found = tokens(name)
    except BadText:
        return False
    return len(found) == 1 and found[0][:2] == ("name", name)


def name_text(name):
    """Return the text of a name that is not written as an operator."""
    if is_bare(name):
        return name
    doubled = name.replace("'", "''")
    return f"'{doubled}'"


def enclosed(text):
    """Return a text in parentheses."""
    return f"({text})"


def argument_text(piece):
    """Return the text of an argument of a compound term or of a list."""
    return enclosed(piece[0]) if piece[1] > ARGUMENT_PRIORITY else piece[0]


def atom_piece(name, table):
    """Return the piece of an atom."""
    if name == "[]":
        return name, 0, "", "list"
    if name == "{}":
        return name, 0, "", "plain"
    is_operator = (name, "prefix") in table or (name, "infix") in table
    kind = "operator" if is_operator else "plain"
    return name_text(name), 0, "", kind


def list_piece(first, rest):
    """Return the piece of a list cell with the given pieces."""
    text = argument_text(first)
    if rest[3] != "list":
        text = text + "|" + argument_text(rest)
    elif rest[0] != "[]":
        text = text + "," + rest[0][1:-1]
    return "[" + text + "]", 0, "", "list"


def prefix_piece(name, operator, argument):
    """Return the piece of a prefix operator with an argument."""
    text, priority, _, kind = argument
    if priority > right_limit(operator) or kind in ("integer", "operator") or text[0] == "(":
        text = enclosed(text)
    return f"{name} {text}", operator[0], operator[1], "plain"


def left_text(operator, argument):
    """Return the text of the left argument of an infix operator."""
    text, priority, form, kind = argument
    # The argument would take in the operator if it stood there bare.
    reaches_over = priority == operator[0] and form in ("xfy", "fy")
    negative = kind == "integer" and text[0] == "-"
    if priority > left_limit(operator) or reaches_over or negative or kind == "operator":
        return enclosed(text)
    return text


def right_text(operator, argument):
    """Return the text of the right argument of an infix operator."""
    text, priority, _, kind = argument
    if priority > right_limit(operator) or kind == "operator":
        return enclosed(text)
    return text


def infix_piece(name, operator, left, right):
    """Return the piece of an infix operator with two arguments."""
    sign = ", " if name == "," else f" {name} "
    text = left_text(operator, left) + sign + right_text(operator, right)
    return text, operator[0], operator[1], "plain"


def compound_piece(symbol, arguments, table):
    """Return the piece of a compound term with the pieces of its arguments."""
    _, name, arity = symbol
    if symbol == LIST_CELL:
        return list_piece(arguments[0], arguments[1])
    if name == "{}" and arity == 1:
        return "{" + arguments[0][0] + "}", 0, "", "plain"
    if arity == 1 and (name, "prefix") in table and is_bare(name):
        return prefix_piece(name, table[(name, "prefix")], arguments[0])
    if arity == 2 and (name, "infix") in table and (is_bare(name) or name == ","):
        return infix_piece(name, table[(name, "infix")], arguments[0], arguments[1])
    text = ",".join([argument_text(argument) for argument in arguments])
    return f"{name_text(name)}({text})", 0, "", "plain"


def piece_of(node, arguments, table):
    """Return the piece of a term with this first node and the pieces of its arguments."""
    if is_variable(node):
        return f"_{node[1]}", 0, "", "plain"
    if not is_symbol(node):
        return str(node), 0, "", "integer"
    if arity_of(node) == 0:
        return atom_piece(node[1], table)
    return compound_piece(node, arguments, table)


def write(term, table):
    """Return the text of a term under an operator table."""
    pieces = []
    # Going backwards, the arguments of a symbol are the last pieces made before it.
    for node in reversed(renumber(term)):
        start = len(pieces) - arity_of(node)
        arguments = pieces[start:][::-1]
        del pieces[start:]
        pieces.append(piece_of(node, arguments, table))
    return pieces[0][0]
