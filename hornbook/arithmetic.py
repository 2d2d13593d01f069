"""Arithmetic expressions."""

from hornbook.terms import INTEGER_BOUND, atom, compound, integer, is_symbol, is_variable

EVALUABLE = (("+", 2), ("-", 2), ("*", 2), ("//", 2), ("mod", 2), ("-", 1))


def symbol_error(node):
    """Return the error of a node that is no integer, or None if it is an operator."""
    if is_variable(node):
        return atom("instantiation_error")
    _, name, arity = node
    if (name, arity) in EVALUABLE:
        return None
    return compound("type_error", atom("evaluable"), compound("/", atom(name), integer(arity)))


def calculate(name, values):
    """Return the value of an operator for values of which no divisor is 0."""
    if len(values) == 1:
        return -values[0]
    left, right = values
    if name == "+":
        return left + right
    if name == "-":
        return left - right
    if name == "*":
        return left * right
    if name == "//":
        return left // right
    return left % right


def result(name, values):
    """Return the value of an operator for the values of its arguments, or an error term."""
    if name in ("//", "mod") and values[1] == 0:
        return compound("evaluation_error", atom("zero_divisor"))
    value = calculate(name, values)
    if abs(value) >= INTEGER_BOUND:
        return compound("evaluation_error", atom("overflow"))
    return value


def evaluate(term):
    """Return the value of an expression, or the error that its evaluation raises, as a term."""
    symbols = []
    # The values found so far: first those of the whole expression, then those of each
    # operator of which not all arguments are known.
    found = [[]]
    for node in term:
        if is_symbol(node) or is_variable(node):
            error = symbol_error(node)
            if error is not None:
                return error
            symbols.append(node)
            found.append([])
            continue
        found[-1].append(node)
        while len(symbols) > 0 and len(found[-1]) == symbols[-1][2]:
            value = result(symbols.pop()[1], found.pop())
            if isinstance(value, tuple):
                return value
            found[-1].append(value)
    return found[0][0]
