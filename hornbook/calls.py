"""What the control construct call calls."""

from hornbook.faults import instantiation_error, kind_error, representation_error
from hornbook.program import goal_form
from hornbook.terms import MOST_ARITY, arity_of, is_integer, is_variable


def called_goal(words):
    """Return an error or None, and the goal that call with these arguments calls."""
    node = words[0][0]
    if is_integer(node):
        return kind_error("callable", words[0]), None
    if is_variable(node):
        return instantiation_error(), None
    if arity_of(node) + len(words) - 1 > MOST_ARITY:
        return representation_error("arity"), None
    nodes = [("f", node[1], node[2] + len(words) - 1), *words[0][1:]]
    for word in words[1:]:
        nodes.extend(word)
    return None, goal_form(tuple(nodes))
