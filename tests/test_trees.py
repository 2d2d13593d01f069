"""Points 36 to 39, and hornbook/trees.py."""

import unittest

from helper import a, chain, clauses, f, i, random_clauses, read, rule, seeded, shown, sized, v
from hornbook.definite import head_and_goals, resolve
from hornbook.derivations import MOST_DEPTH, derive
from hornbook.errors import NotAccepted, NotDefinite, TooLarge
from hornbook.terms import renumber
from hornbook.trees import MOST_TREE, accepts_tree, search_tree, tree_answers
from hornbook.unify import matches

EDGE = "e(a, b). p(X) :- e(X, Y)."
EDGE_TREE = (0, ((), ((0, ((None,), ())),)))
SUM = "n(z). n(s(X)) :- n(X). q(X, Y) :- n(X), n(Y), m(X, Y). m(z, z). m(s(z), Y)."
NO_TREES = [None, (), [], 0, True, "tree", (0,), (0, (), ()), [0, ()], (0, []), (0, None), (None, ()), ("0", ()),
    (0, 0)]


def accepted_by_words(program, query, tree):
    """Point 37, word by word: the answers of the tree, or None if it is not accepted."""
    count = 0

    def walk(instance, goals, value, depth):
        nonlocal count
        if not goals:
            return [renumber(instance)] if value is None else None
        count += 1
        if type(value) is not tuple or len(value) != 2 or depth > 60 or count > 400:
            return None
        pick, children = value
        if type(pick) is not int or not 0 <= pick < len(goals):
            return None
        if type(children) is not tuple or len(children) != len(program):
            return None
        found = []
        for clause, child in zip(program, children):
            step = resolve(instance, goals, pick, clause)
            if type(child) is not tuple or len(child) != (0 if step is None else 1):
                return None
            if step is not None:
                below = walk(step[0], step[1], child[0], depth + 1)
                if below is None:
                    return None
                found += below
        return found

    try:
        return walk(query, [query], tree, 1)
    except TooLarge:
        return None


def tree_by_words(program, query, picks):
    """Point 39, word by word: the tree, without a look at its limits but that it ends at 500 pairs."""
    count = 0

    def grow(instance, goals):
        nonlocal count
        if not goals:
            return None
        number, count = count, count + 1
        if count > 500:
            raise TooLarge("")
        pick = picks[number % len(picks)] % len(goals) if picks else 0
        children = []
        for clause in program:
            step = resolve(instance, goals, pick, clause)
            children.append(() if step is None else (grow(*step),))
        return (pick, tuple(children))

    try:
        return grow(query, [query])
    except TooLarge:
        return None


def changed(source, tree):
    """The tree with one thing changed somewhere."""
    if type(tree) is not tuple or len(tree) != 2 or type(tree[1]) is not tuple:
        return source.choice(((0, ()), (), [], False))
    pick, children = tree
    inner = [at for at, child in enumerate(children) if type(child) is tuple and child]
    kind = source.randrange(10)
    if inner and kind < 5:
        at = source.choice(inner)
        return (pick, children[:at] + ((changed(source, children[at][0]),),) + children[at + 1:])
    if kind == 5:
        return (source.choice((-1, 1, 2, True, False, str(pick), None)), children)
    if kind == 6:
        return (pick, source.choice((children[1:], children + ((),), list(children), children[::-1])))
    if kind == 7 and children:
        at = source.randrange(len(children))
        other = source.choice(((), (None,), (None, None), None, list(children[at]), children[at] * 2, ((0, ()),)))
        return (pick, children[:at] + (other,) + children[at + 1:])
    return source.choice((None, list(tree), tree + tree, (pick,)))


def layered_clauses(source, count):
    """A small program whose goals come later in the alphabet than the heads of their clauses, all but a few."""
    program = []
    for clause in random_clauses(source, count):
        head, goals = head_and_goals(clause)
        kept = [goal for goal in goals if goal[0][1] > head[0][1] or source.random() < 0.1]
        program.append(rule(head, *kept, a("true")))
    return program


def pairs_in(tree):
    """The number of pairs in a tree, and how many are inside each other."""
    if tree is None:
        return 0, 0
    below = [pairs_in(child[0]) for child in tree[1] if child]
    return 1 + sum(count for count, _ in below), 1 + max([depth for _, depth in below], default=0)


def wide_clauses(count):
    """A program of which the tree of r has so many pairs, at most four inside each other."""
    program = clauses("r :- d(X), d(Y), z. r :- e(X), z.")
    return program + [f("d", i(k)) for k in range(19)] + [f("e", i(k)) for k in range(count - 383)]


class Accepting(unittest.TestCase):

    def check(self, program, query, tree, answers):
        program = clauses(program) if isinstance(program, str) else program
        query = read(query) if isinstance(query, str) else query
        with self.subTest(shown(query)[:50]):
            self.assertIs(accepts_tree(program, query, tree), True)
            found = tree_answers(program, query, tree)
            self.assertEqual([shown(answer) for answer in found], answers)
            self.assertIs(type(found), list)

    def refuse(self, program, query, tree):
        program = clauses(program) if isinstance(program, str) else program
        query = read(query) if isinstance(query, str) else query
        with self.subTest(shown(query)[:50]):
            self.assertIs(accepts_tree(program, query, tree), False)
            with self.assertRaises(NotAccepted):
                tree_answers(program, query, tree)

    def test_the_example(self):
        self.check(EDGE, "p(Z)", EDGE_TREE, ["p(a)"])

    def test_programs_without_clauses(self):
        self.check([], "p", (0, ()), [])
        self.check([], "p(X)", (0, ()), [])
        for tree in NO_TREES + [None, (1, ()), (0, ((),)), (False, ())]:
            self.refuse([], "p", tree)

    def test_clauses_without_goals(self):
        self.check("p(1). p(X). q. p(2) :- true, true.", "p(2)", (0, ((), (None,), (), (None,))), ["p(2)", "p(2)"])
        self.check("p(1). p(X). q. p(2).", "p(Y)", (0, ((None,), (None,), (), (None,))), ["p(1)", "p(_0)", "p(2)"])

    def test_one_thing_wrong_at_each_place(self):
        leaf = (0, ((None,), ()))
        for tree in (
                (1, EDGE_TREE[1]), (-1, EDGE_TREE[1]), (True, EDGE_TREE[1]), (False, EDGE_TREE[1]),
                ("0", EDGE_TREE[1]), (None, EDGE_TREE[1]), (0, ((), ((False, leaf[1]),))),
                (0, ((leaf,),)), (0, ((), (leaf,), ())), (0, ((leaf,), ())), (0, ((), (leaf, leaf))),
                (0, ()), (0, [(), (leaf,)]), (0, ([], (leaf,))), (0, ((), [leaf])), [0, ((), (leaf,))],
                (0, ((), ([0, leaf[1]],))), (0, ((), ((0, list(leaf[1])),))), (0, ((None,), (leaf,))),
                (0, ((), (None,))), (0, ((), ())), (0, ((), ((0, ((), ())),))), (0, ((), ((0, ((), (None,))),))),
                (0, ((), ((0, ((None,), (None,))),))), (0, ((), ((0, (((0, ((), ())),), ())),))),
                (0, ((), ((1, ((None,), ())),))), (0, ((), (((),),))), (0, (None, (leaf,))), (0, ((), leaf)), leaf):
            self.refuse(EDGE, "p(Z)", tree)
        for tree in NO_TREES:
            self.refuse(EDGE, "p(Z)", tree)

    def test_picks(self):
        program = "a :- b, c. b. c."
        for first, second in ((0, 0), (1, 0)):
            rest = (second, ((), (), (None,)) if first == 0 else ((), (None,), ()))
            middle = (first, ((), (rest,), ()) if first == 0 else ((), (), (rest,)))
            self.check(program, "a", (0, ((middle,), (), ())), ["a"])
        for pick in (-1, 2, True, None, "1", (1,), [1]):
            self.refuse(program, "a", (0, (((pick, ((), (), ((0, ((), (None,), ())),))),), (), ())))

    def test_a_tree_without_answers(self):
        # The goal that fails is picked, and the other one never.
        program = "p :- p, q. q :- fails."
        tree = (0, (((1, ((), ((1, ((), ())),))),), ()))
        self.check(program, "p", tree, [])
        self.assertEqual(derive(clauses(program), read("p"), 50), ([], False))

    def test_answers_in_order_and_as_often_as_they_occur(self):
        program = "p(X, Y) :- q(X), q(Y). q(b). q(a). q(Z)."
        tree = search_tree(clauses(program), read("p(A, B)"), [])
        self.check(program, "p(A, B)", tree, [f"p({x},{y})" for x in ("b", "a", "_0") for y in (
            "b", "a", "_0" if x != "_0" else "_1")])
        twice = "p(X) :- q(X, Y). q(a, b). q(a, c). q(b, c). q(a, b)."
        self.check(twice, "p(A)", search_tree(clauses(twice), read("p(A)"), []), ["p(a)", "p(a)", "p(b)", "p(a)"])
        self.check("p(X, Y).", f("p", v(7), v(3)), (0, ((None,),)), ["p(_0,_1)"])

    def test_400_pairs(self):
        for count in (399, 400, 401, 402):
            program = wide_clauses(count)
            tree = tree_by_words(program, a("r"), [])
            self.assertEqual(pairs_in(tree), (count, 4))
            if count <= 400:
                self.check(program, a("r"), tree, [])
                self.assertEqual(search_tree(program, a("r"), []), tree)
            else:
                self.refuse(program, a("r"), tree)
                self.assertIsNone(search_tree(program, a("r"), []))
        self.assertEqual(MOST_TREE, 400)

    def test_60_pairs_inside_each_other(self):
        for count in (59, 60):
            program = clauses("n(z). n(s(X)) :- n(X).")
            query = f("n", chain("s", count - 1, a("z")))
            tree = tree_by_words(program, query, [])
            self.assertEqual(pairs_in(tree), (count, count))
            self.check(program, query, tree, [shown(query)])
            self.assertEqual(search_tree(program, query, [3, 1]), tree)
        for count in (61, 62, 70):
            query = f("n", chain("s", count - 1, a("z")))
            tree = tree_by_words(program, query, [])
            self.assertEqual(pairs_in(tree), (count, count))
            self.refuse(program, query, tree)
            self.assertIsNone(search_tree(program, query, []))
        self.assertEqual(MOST_DEPTH, 60)

    def test_too_large_in_a_unification(self):
        program = [rule(a("p"), f("q", v(0), v(0), v(0))), f("q", v(0), v(0), chain("s", 66, v(1)))]
        tree = (0, (((0, ((), (None,))),), ()))
        self.refuse(program, "p", tree)
        self.assertIsNone(search_tree(program, a("p"), []))
        program[1] = f("q", v(0), v(0), chain("s", 65, v(1)))
        self.check(program, "p", tree, ["p"])
        self.assertEqual(search_tree(program, a("p"), []), tree)

    def test_too_large_afterwards(self):
        tree = (0, ((None,), ()))
        for size, right in ((99, True), (100, False)):
            program = [f("p", sized(size, ("v", 0)), v(1)), a("x")]
            query = f("p", v(0), v(0))
            self.assertEqual(accepts_tree(program, query, tree), right)
            self.assertEqual(search_tree(program, query, []), tree if right else None)
        self.check([sized(200)], sized(200), (0, ((None,),)), [shown(sized(200))])
        self.refuse([chain("s", 199, v(0))], sized(201), (0, ((None,),)))
        self.assertIsNone(search_tree([chain("s", 199, v(0))], sized(201), []))
        self.check([a("q")], sized(1000), (0, ((),)), [])
        self.assertEqual(search_tree([a("q")], sized(1000), []), (0, ((),)))

    def test_values_that_are_nested_deep(self):
        value = None
        for _ in range(3000):
            value = (0, ((value,),))
        self.refuse("p :- p.", "p", value)
        value = ()
        for _ in range(3000):
            value = (value,)
        self.refuse("p :- p.", "p", value)
        self.refuse("p :- p.", "p", (0, value))

    def test_against_the_words(self):
        source = seeded(37)
        accepted = refused = 0
        for _ in range(400):
            program = layered_clauses(source, source.randrange(1, 6))
            query = head_and_goals(random_clauses(source, 1)[0])[0]
            tree = tree_by_words(program, query, [source.randrange(5) for _ in range(source.randrange(4))])
            once = changed(source, tree)
            for value in (tree, once, changed(source, once)):
                expected = accepted_by_words(program, query, value)
                self.assertIs(accepts_tree(program, query, value), expected is not None)
                if expected is None:
                    refused += 1
                    with self.assertRaises(NotAccepted):
                        tree_answers(program, query, value)
                else:
                    accepted += 1
                    self.assertEqual(tree_answers(program, query, value), expected)
        self.assertGreater(accepted, 200)
        self.assertGreater(refused, 500)


class Answers(unittest.TestCase):

    def test_the_picks_do_not_matter(self):
        source = seeded(38)
        several = 0
        for _ in range(150):
            program = layered_clauses(source, source.randrange(4, 8))
            query = head_and_goals(random_clauses(source, 1)[0])[0]
            found = {}
            for picks in ([], [1], [2, 0, 1], [5, 1]):
                tree = search_tree(program, query, picks)
                if tree is not None:
                    answers = tree_answers(program, query, tree)
                    found[str(picks)] = sorted(answers, key=repr)
                    # An accepted derivation of an instance of the query has it as an instance of an answer.
                    derivations, complete = derive(program, query, 300)
                    given = [renumber(derivation[0]) for derivation in derivations]
                    if complete:
                        self.assertEqual(sorted(given, key=repr), found[str(picks)])
                    for answer in given:
                        self.assertLessEqual(given.count(answer), answers.count(answer))
                        self.assertTrue(any(matches(other, answer) is not None for other in answers))
            for one in found.values():
                self.assertEqual(one, list(found.values())[0])
            several += len(found) > 1 and len(list(found.values())[0]) > 1
        self.assertGreater(several, 30)

    def test_without_an_answer_although_leftmost_resolution_does_not_end(self):
        program = clauses("p(X) :- p(s(X)), q(X). q(a) :- r.")
        tree = search_tree(program, read("p(b)"), [0, 1])
        self.assertEqual(tree, (0, (((1, ((), ())),), ())))
        self.assertEqual(tree_answers(program, read("p(b)"), tree), [])
        self.assertEqual(derive(program, read("p(b)"), 40), ([], False))


class Searching(unittest.TestCase):

    def test_the_example(self):
        self.assertEqual(search_tree(clauses(EDGE), read("p(Z)"), []), EDGE_TREE)
        self.assertEqual(search_tree(clauses(EDGE), read("p(Z)"), [7]), EDGE_TREE)

    def test_each_number_of_picks(self):
        program = clauses("a :- b, c, d. b :- c. c. d.")
        for picks in ([], [0], [1], [2], [3], [5], [0, 1], [1, 0], [0, 2, 1], [10 ** 30, 1, 7], [4, 4, 4, 4, 4]):
            self.assertEqual(search_tree(program, a("a"), picks), tree_by_words(program, a("a"), picks))
        self.assertEqual(search_tree(program, a("a"), [0, 1, 3, 5])[1][0][0][0], 1)
        self.assertEqual(search_tree(program, a("a"), [0, 5])[1][0][0][0], 2)

    def test_the_order_of_the_pairs(self):
        program = clauses("a :- b, b. b :- c. b :- d. c. d.")
        tree = search_tree(program, a("a"), [0, 1, 0, 1, 1, 0])
        self.assertEqual(tree, tree_by_words(program, a("a"), [0, 1, 0, 1, 1, 0]))
        self.assertNotEqual(tree, search_tree(program, a("a"), [0, 1, 1, 0, 1, 0]))
        self.assertEqual(len(tree_answers(program, a("a"), tree)), 4)

    def test_none_where_resolution_does_not_end(self):
        self.assertIsNone(search_tree(clauses("p :- p."), a("p"), []))
        self.assertIsNone(search_tree(clauses("p(X) :- p(s(X))."), read("p(a)"), []))
        self.assertIsNone(search_tree(clauses("p :- p, p. p."), a("p"), [1]))
        self.assertIsNone(search_tree(clauses("p :- q, p. q. q. q. q."), a("p"), []))
        # It ends for other picks.
        program = clauses("p :- p, q.")
        self.assertIsNone(search_tree(program, a("p"), []))
        self.assertEqual(search_tree(program, a("p"), [0, 1]), (0, (((1, ((),)),),)))

    def test_against_the_words(self):
        source = seeded(39)
        some = 0
        for _ in range(200):
            program = layered_clauses(source, source.randrange(0, 8))
            query = head_and_goals(random_clauses(source, 1)[0])[0]
            picks = [source.randrange(6) for _ in range(source.randrange(5))]
            tree = search_tree(program, query, picks)
            expected = tree_by_words(program, query, picks)
            if expected is not None and accepted_by_words(program, query, expected) is None:
                expected = None
            self.assertEqual(tree, expected)
            if tree is not None:
                some += 1
                self.assertIs(accepts_tree(program, query, tree), True)
        self.assertGreater(some, 150)

    def test_arguments_are_not_changed(self):
        program, picks = clauses(SUM), [1, 2]
        search_tree(program, read("q(z, Y)"), picks)
        self.assertEqual((program, picks), (clauses(SUM), [1, 2]))


class Wrong(unittest.TestCase):

    def test_not_definite_before_all_else(self):
        good = clauses("p(X) :- q(X). q(a).")
        for bad in ("p :- !.", "p :- X.", "p :- q, X.", "p :- q, (r, 3).", "p :- a ; b.", "p :- X = a.",
            "p :- write(1).",
                    "p :- call(q)."):
            for at in range(3):
                program = good[:at] + clauses(bad) + good[at:]
                for tree in (*NO_TREES, (0, ((), ()))):
                    with self.subTest(bad), self.assertRaises(NotDefinite):
                        accepts_tree(program, read("p(a)"), tree)
                    with self.assertRaises(NotDefinite):
                        tree_answers(program, read("p(a)"), tree)
                with self.assertRaises(NotDefinite):
                    search_tree(program, read("p(a)"), [])
        for query in (v(0), i(3), a("!"), read("X = 1"), read("(p, q)"), read("call(p)"), a("true"), read("write(a)")):
            for tree in NO_TREES:
                with self.assertRaises(NotDefinite):
                    accepts_tree(good, query, tree)
                with self.assertRaises(NotDefinite):
                    tree_answers(good, query, tree)
            with self.assertRaises(NotDefinite):
                search_tree(good, query, [1])
        # Before a term gets too large.
        with self.assertRaises(NotDefinite):
            search_tree([chain("s", 199, v(0)), v(0)], sized(201), [])
        with self.assertRaises(NotDefinite):
            tree_answers([chain("s", 199, v(0)), v(0)], sized(201), (0, ((None,), ())))


if __name__ == "__main__":
    unittest.main()
