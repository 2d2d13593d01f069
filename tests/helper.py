"""Terms for the tests, built without the program or read from a text, and values for the checks."""

import random

from hornbook.operators import initial_table
from hornbook.reader import read_clauses, read_term
from hornbook.terms import parts
from hornbook.writer import write

TABLE = initial_table()
EMPTY = (("f", "[]", 0),)
# Terms are nested up to this deep: each has 1,000 nodes.
DEPTH = 999
CONTROL = [("true", 0), ("fail", 0), ("!", 0), (",", 2), (";", 2), ("->", 2), ("\\+", 1)]
CONTROL += [("call", arity) for arity in range(1, 9)] + [("catch", 3), ("findall", 3), ("throw", 1)]
BUILT_IN = [
    ("=", 2), ("\\=", 2), ("==", 2), ("\\==", 2), ("@<", 2), ("compare", 3), ("var", 1), ("nonvar", 1), ("atom", 1),
    ("integer", 1), ("callable", 1), ("functor", 3), ("arg", 3), ("=..", 2), ("copy_term", 2), ("sort", 2), ("is", 2),
    ("=:=", 2), ("<", 2), ("=<", 2), ("write", 1), ("nl", 0), ("asserta", 1), ("assertz", 1), ("retract", 1),
    ("tabled", 1), ("solve", 2),
]


def v(number):
    return (("v", number),)


def i(value):
    return (value,)


def a(name):
    return (("f", name, 0),)


def f(name, *arguments):
    nodes = (("f", name, len(arguments)),)
    for argument in arguments:
        nodes += argument
    return nodes


def chain(name, count, last):
    """name(name(..(last)..)), with so many symbols."""
    return (("f", name, 1),) * count + last


def left_chain(name, count, last):
    """name(name(..(last, x).., x), x), with so many symbols of arity 2."""
    return (("f", name, 2),) * count + last + a("x") * count


def right_chain(name, count, last):
    """name(x, name(x, ..(last))), with so many symbols of arity 2."""
    return (("f", name, 2), ("f", "x", 0)) * count + last


def items(*elements, tail=EMPTY):
    nodes = ()
    for element in elements:
        nodes += (("f", ".", 2),) + element
    return nodes + tail


def sized(count, leaf=("f", "c", 0)):
    """A term of so many nodes that ends with the leaf."""
    return (("f", "s", 1),) * (count - 1) + (leaf,)


def random_term(source, size, names, *, numbers=4, arities=(1, 2, 2, 3)):
    """A term of about this size with atoms and symbols of the given names."""
    if size <= 1:
        kind = source.randrange(10)
        if kind < 4:
            return v(source.randrange(numbers))
        if kind < 6:
            return i(source.randrange(-2, 3))
        return a(source.choice(names))
    arity = source.choice(arities)
    return f(source.choice(names), *[
        random_term(source, source.randrange(1, size), names, numbers=numbers, arities=arities)
        for _ in range(arity)
    ])


def seeded(number):
    """A source of the same numbers in each run."""
    return random.Random(number)


def read(text):
    """The term of a text without the period at its end."""
    return read_term(text + " .", TABLE)


def reads(*texts):
    return [read(text) for text in texts]


def clauses(text):
    return read_clauses(text, TABLE)


def shown(term):
    return write(term, TABLE)


def rule(head, *goals):
    """The clause with this head and these goals, joined to the right."""
    body = goals[-1]
    for goal in goals[-2::-1]:
        body = f(",", goal, body)
    return f(":-", head, body)


def facts(count):
    """The clauses p(0), p(1), and so on."""
    return [f("p", i(number)) for number in range(count)]


def random_clauses(source, count):
    """A small definite program over p/1, q/2 and r/0 whose bodies have up to three goals."""
    def argument(depth=0):
        kind = source.randrange(7 if depth < 1 else 6)
        if kind < 3:
            return v(source.randrange(3))
        return f("s", argument(1)) if kind == 6 else a("xyz"[kind % 3])

    def goal():
        kind = source.randrange(5)
        return a("r") if kind == 0 else f("p", argument()) if kind < 3 else f("q", argument(), argument())

    return [rule(goal(), *[goal() for _ in range(source.choice((0, 0, 1, 2, 3)))], a("true")) for _ in range(count)]


def intervals(members):
    """The domain of an ascending list of different values."""
    found = []
    for value in members:
        if found and found[-1][1] == value - 1:
            found[-1] = (found[-1][0], value)
        else:
            found.append((value, value))
    return tuple(found)


def random_domain(source, low, high, share):
    return intervals([value for value in range(low, high + 1) if source.random() < share])


def random_constraint(source, count):
    kind = source.choice(("le", "eq", "ne", "times", "distinct"))
    if kind == "times":
        return (kind, *[source.randrange(count) for _ in range(3)])
    chosen = tuple(source.sample(range(count), source.randrange(1, count + 1)))
    if kind == "distinct":
        return (kind, chosen)
    factors = (-3, -2, -1, 1, 2, 3)
    return (kind, tuple((source.choice(factors), variable) for variable in chosen), source.randrange(-6, 7))


def random_body(source, size, goal):
    """A body with about so many constructs and goals; `goal` makes a goal from the source."""
    if size <= 1:
        kind = source.randrange(14)
        if kind < 4:
            return a(("true", "fail", "!", "!")[kind])
        return v(source.randrange(5)) if kind == 4 and source.random() < 0.3 else goal(source)
    name = source.choice((",", ",", ",", ";", ";->", "->", "\\+"))
    if name == "\\+":
        return f("\\+", random_body(source, size - 1, goal))
    left = source.randrange(1, size)
    first, second = random_body(source, left, goal), random_body(source, size - left, goal)
    if name == ";->":
        return f(";", f("->", first, second), random_body(source, max(1, size // 3), goal))
    return f(name, first, second)


def random_goal(source):
    """A goal of p/1, q/2 or r/0 with small arguments."""
    def argument(depth):
        kind = source.randrange(8)
        if kind < 4:
            return v(source.randrange(4))
        if kind < 6:
            return a("xy"[kind - 4])
        if kind == 6 or depth > 1:
            return i(source.randrange(2))
        return f("s", argument(depth + 1)) if source.random() < 0.6 else f("t", argument(depth + 1),
            argument(depth + 1))

    name, arity = source.choice((("p", 1), ("q", 2), ("r", 0), ("p", 1), ("q", 2)))
    return f(name, *[argument(0) for _ in range(arity)])


def split_body(term):
    """The goals of a body that are joined by `,`, without `true`."""
    found, waiting = [], [term]
    while waiting:
        term = waiting.pop()
        if term[0] == ("f", ",", 2):
            left, right = parts(term)
            waiting += [right, left]
        elif term != a("true"):
            found.append(term)
    return found


def normal_goals(term):
    """The goals of a body in the form of point 55."""
    found = []
    for goal in split_body(term):
        words = parts(goal)
        if not isinstance(goal[0], tuple) or goal[0][0] == "v":
            goal = f("call", goal)
        elif goal[0] == ("f", "->", 2):
            goal = f(";", f("->", normal_body(words[0]), normal_body(words[1])), a("fail"))
        elif goal[0] == ("f", ";", 2) and words[0][0] == ("f", "->", 2):
            condition, then = parts(words[0])
            goal = f(";", f("->", normal_body(condition), normal_body(then)), normal_body(words[1]))
        elif goal[0] in (("f", ";", 2), ("f", "\\+", 1)):
            goal = f(goal[0][1], *[normal_body(word) for word in words])
        found.append(goal)
    return found


def normal_body(term):
    """A body in the form of point 55."""
    goals = normal_goals(term)
    body = goals.pop() if goals else a("true")
    while goals:
        body = f(",", goals.pop(), body)
    return body


def renumbered(terms):
    """The terms renumbered together."""
    names, found = {}, []
    for term in terms:
        found.append(tuple(("v", names.setdefault(node, len(names))) if isinstance(node, tuple) and node[0] == "v"
                           else node for node in term))
    return found


def random_argument(source, inner=1):
    """A small term over the variables 0 to 3."""
    kind = source.randrange(9 if inner else 6)
    if kind < 3:
        return v(source.randrange(4))
    if kind < 6:
        return [a("x"), a("y"), i(1)][kind - 3]
    return [f("s", random_argument(source, 0)), f("t", random_argument(source, 0), random_argument(source, 0)),
            items(random_argument(source, 0), random_argument(source, 0))][kind - 6]


def random_built_in(source):
    """A goal of a built-in predicate that does not change the program."""
    def argument():
        return random_argument(source)

    name, arity = source.choice(BUILT_IN)
    if name in ("asserta", "assertz", "retract", "tabled", "solve"):
        return source.choice((f("tabled", f(source.choice("pqr"), argument())), read(
            "solve([A, B], [A in 1 .. 3, B in 1 .. 2, A < B])")))
    if name in ("is", "=:=", "<", "=<"):
        return f(name, source.choice((i(1), argument())), f("+", i(source.randrange(3)),
            source.choice((i(1), argument()))))
    if name == "arg":
        return f(name, source.choice((i(1), i(2), argument())), argument(), argument())
    return f(name, *[argument() for _ in range(arity)])


def random_prolog_goal(source, depth, *, calm=False):
    """A goal with every construct; a calm one seldom raises an error and changes nothing."""
    def argument():
        return random_argument(source)

    kind = source.randrange(22 + 18 * (depth > 0))
    if kind < 8:
        return f(source.choice("pqr"), argument())
    if kind < 11:
        return f("w", argument(), argument())
    if kind < 14:
        return f("=", v(source.randrange(4)), argument())
    if kind < 17:
        return a(("!", "true", "fail")[kind - 14])
    if kind < 22:
        if calm:
            return f(source.choice(("w", "copy_term")), argument(), v(source.randrange(4)))
        return source.choice((f("write", argument()), v(source.randrange(4)), random_built_in(source)))
    left = random_prolog_goal(source, depth - 1, calm=calm)
    if kind < 24:
        return f(source.choice(("\\+", "call")), left)
    if kind == 24:
        return f("call", a(source.choice("pqr")), argument())
    if kind < 27:
        return f("findall", argument(), left, argument())
    if kind == 27:
        return f("throw", argument())
    if kind == 28 and not calm:
        return f(source.choice(("assertz", "asserta", "retract")), f(source.choice("pq"), argument()))
    right = random_prolog_goal(source, depth - 1, calm=calm)
    if kind < 31:
        return f("catch", left, v(source.randrange(4)) if calm else argument(), right)
    if kind < 33:
        return f(";", f("->", left, right), random_prolog_goal(source, depth - 1, calm=calm))
    return f(source.choice((",", ",", ",", ",", ";", "->")), left, right)


def random_prolog_program(source, *, calm=False):
    """Clauses and dynamic indicators over p/1, q/1, r/1 and w/2."""
    if calm:
        found = clauses("p(x). p(y). p(A). p(s(A)) :- p(A). w(A, A). w(x, B). w(s(A), t(A, B)) :- r(B). w(A, "
            "B) :- r(A), "
                        "r(B). r(x). r(A).")
        for _ in range(4):
            head = f("q", source.choice((v(0), v(0), a("x"), f("s", v(0)), f("t", v(0), v(1)))))
            found.append(f(":-", head, random_prolog_goal(source, 3, calm=True)))
        source.shuffle(found)
        return found, []
    heads = [f(source.choice("pqr"), source.choice((v(0), a("x"), a("y"), f("s", v(0)), i(1)))) for _ in range(6)]
    heads += [f("w", random_argument(source), random_argument(source)) for _ in range(2)]
    found = [f(":-", head, random_prolog_goal(source, source.randrange(4))) for head in heads]
    return found, [("p", 1)] if source.random() < 0.3 else [("p", 1), ("q", 1), ("r", 1), ("w", 2)]
