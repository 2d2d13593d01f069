"""Terms for the tests, built without the program, and values for the checks."""

import random

EMPTY = (("f", "[]", 0),)
# Terms are nested up to this deep: each has 1,000 nodes.
DEPTH = 999


def v(number):
    return (("v", number),)


def i(value):
    return (value,)


def a(name):
    return (("f", name, 0),)


def f(name, *arguments):
    nodes = (("f", name, len(arguments)),)
    for argument in arguments:
        nodes += argument
    return nodes


def chain(name, count, last):
    """name(name(..(last)..)), with so many symbols."""
    return (("f", name, 1),) * count + last


def left_chain(name, count, last):
    """name(name(..(last, x).., x), x), with so many symbols of arity 2."""
    return (("f", name, 2),) * count + last + a("x") * count


def right_chain(name, count, last):
    """name(x, name(x, ..(last))), with so many symbols of arity 2."""
    return (("f", name, 2), ("f", "x", 0)) * count + last


def items(*elements, tail=EMPTY):
    nodes = ()
    for element in elements:
        nodes += (("f", ".", 2),) + element
    return nodes + tail


def sized(count, leaf=("f", "c", 0)):
    """A term of so many nodes that ends with the leaf."""
    return (("f", "s", 1),) * (count - 1) + (leaf,)


def random_term(source, size, names, *, numbers=4, arities=(1, 2, 2, 3)):
    """A term of about this size with atoms and symbols of the given names."""
    if size <= 1:
        kind = source.randrange(10)
        if kind < 4:
            return v(source.randrange(numbers))
        if kind < 6:
            return i(source.randrange(-2, 3))
        return a(source.choice(names))
    arity = source.choice(arities)
    return f(source.choice(names), *[
        random_term(source, source.randrange(1, size), names, numbers=numbers, arities=arities)
        for _ in range(arity)
    ])


def seeded(number):
    """A source of the same numbers in each run."""
    return random.Random(number)
