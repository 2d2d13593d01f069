"""Bodies of clauses as lists of steps.

A step is a tuple that begins with a word. ("call", goal), ("cut",) and ("fail",) stand for
goals. The others stand around the parts of a construct: ("if",) .. ("then",) .. ("else",) ..
("end", "if"), ("either",) .. ("or",) .. ("end", "either"), and ("not",) .. ("end", "not").
Conjunctions and the goal `true` leave no step.
"""

from hornbook.program import CALL_SYMBOL, TRUE
from hornbook.terms import is_symbol, parts

CONJUNCTION = ("f", ",", 2)
DISJUNCTION = ("f", ";", 2)
CONDITION = ("f", "->", 2)
NEGATION = ("f", "\\+", 1)
CUT = (("f", "!", 0),)
FAIL = (("f", "fail", 0),)
# The constructs, by the steps with which they begin and go on.
FIRST = ("if", "either", "not")
MIDDLE = ("else", "or")


def condition_steps(condition, then, otherwise):
    """Return the steps and goals of an if-then-else."""
    return [("if",), condition, ("then",), then, ("else",), otherwise, ("end", "if")]


def unfolded(goal):
    """Return the list of the steps, and of the goals between them, that a goal stands for."""
    symbol = goal[0]
    if not is_symbol(symbol):
        return [("call", (CALL_SYMBOL, *goal))]
    if goal == TRUE:
        return []
    if goal == CUT:
        return [("cut",)]
    if goal == FAIL:
        return [("fail",)]
    words = parts(goal)
    if symbol == CONJUNCTION:
        return words
    if symbol == CONDITION:
        return condition_steps(words[0], words[1], FAIL)
    if symbol == DISJUNCTION and words[0][0] == CONDITION:
        condition, then = parts(words[0])
        return condition_steps(condition, then, words[1])
    if symbol == DISJUNCTION:
        return [("either",), words[0], ("or",), words[1], ("end", "either")]
    if symbol == NEGATION:
        return [("not",), words[0], ("end", "not")]
    return [("call", goal)]


def is_step(value):
    """Tell whether a value is a step, and not a term."""
    return isinstance(value[0], str)


def body_steps(body):
    """Return the list of the steps of a body."""
    steps = []
    # The steps and goals that were not looked at yet, the next one last.
    waiting = [body]
    while len(waiting) > 0:
        value = waiting.pop()
        if is_step(value):
            steps.append(value)
        else:
            waiting.extend(unfolded(value)[::-1])
    return steps


def joined(goals):
    """Return the conjunction of goals, which associates to the right."""
    if len(goals) == 0:
        return TRUE
    nodes = []
    for goal in goals[:-1]:
        nodes.append(CONJUNCTION)
        nodes.extend(goal)
    nodes.extend(goals[-1])
    return tuple(nodes)


def construct(kind, bodies):
    """Return the goal of a construct with these bodies as its parts."""
    if kind == "not":
        return (NEGATION, *bodies[0])
    if kind == "either":
        return (DISJUNCTION, *bodies[0], *bodies[1])
    return (DISJUNCTION, CONDITION, *bodies[0], *bodies[1], *bodies[2])


def step_goals(steps):
    """Return the list of the goals that whole steps stand for."""
    # The goals of the parts that are not at their end, the innermost part last.
    rows = [[]]
    for step in steps:
        if step[0] == "call":
            rows[-1].append(step[1])
        elif step[0] == "cut":
            rows[-1].append(CUT)
        elif step[0] == "fail":
            rows[-1].append(FAIL)
        elif step[0] == "end":
            count = {"if": 3, "either": 2, "not": 1}[step[1]]
            bodies = [joined(row) for row in rows[-count:]]
            del rows[-count:]
            rows[-1].append(construct(step[1], bodies))
        else:
            rows.append([])
    return rows[0]


def construct_places(steps):
    """Return two dicts of indexes of steps.

    The first one tells for each step of a construct, but the last, where the last one is;
    the other one tells for each first step where its choice point continues: at the second
    part of a disjunction or condition, or at the end of a negation.
    """
    ends = {}
    turns = {}
    # The indexes of the steps of the constructs that are not at their end.
    rows = []
    for at, step in enumerate(steps):
        if step[0] in FIRST:
            rows.append([at])
        elif step[0] == "end":
            row = rows.pop()
            turns[row[0]] = at if step[1] == "not" else row[-1]
            for before in row:
                ends[before] = at
        elif step[0] in MIDDLE or step[0] == "then":
            rows[-1].append(at)
    return ends, turns
