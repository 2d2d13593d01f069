"""Points 6 to 9, and hornbook/unify.py."""

import unittest

from helper import DEPTH, a, chain, f, i, items, left_chain, random_term, right_chain, seeded, sized, v
from hornbook.errors import TooLarge
from hornbook.unify import MOST_NODES, apply, compose, matches, unify


def whole_at(term, at):
    """The term that begins at an index."""
    end, missing = at, 1
    while missing:
        node = term[end]
        missing += (node[2] if isinstance(node, tuple) and node[0] == "f" else 0) - 1
        end += 1
    return term[at:end]


def put(number, value, term):
    """A term with one variable replaced."""
    found = ()
    for node in term:
        found += value if node == ("v", number) else (node,)
    return found


def number_of(node):
    return node[1] if isinstance(node, tuple) and node[0] == "v" else None


def told(left, right):
    """What point 8 tells, word by word: the list of the bindings, None or "large"."""
    bound = max(200, len(left), len(right))
    found = {}
    at = 0
    while at < len(left):
        one, other = number_of(left[at]), number_of(right[at])
        if left[at] == right[at]:
            at += 1
            continue
        if one is None and other is None:
            return None
        if one is not None and (other is None or one > other):
            number, value = one, whole_at(right, at)
        else:
            number, value = other, whole_at(left, at)
        if ("v", number) in value:
            return None
        before = len(left)
        left, right = put(number, value, left), put(number, value, right)
        found = {key: put(number, value, term) for key, term in found.items()}
        found[number] = value
        if max(len(left), len(right), *[len(term) for term in found.values()]) > bound:
            return "large"
        at = 0 if len(left) != before else at
    return list(found.items())


def answer(left, right):
    """What unify does, in the form of told."""
    try:
        found = unify(left, right)
    except TooLarge:
        return "large"
    return None if found is None else list(found.items())


class Apply(unittest.TestCase):

    def test_apply(self):
        term = f("f", v(0), f("g", v(1), v(0)), i(0))
        self.assertEqual(apply({0: a("a")}, term), f("f", a("a"), f("g", v(1), a("a")), i(0)))
        self.assertEqual(apply({1: f("h", i(1)), 7: a("b")}, term), f("f", v(0), f("g", f("h", i(1)), v(0)), i(0)))
        self.assertEqual(apply({}, term), term)
        self.assertEqual(apply({0: i(1)}, v(0)), i(1))
        self.assertEqual(apply({0: i(1)}, i(0)), i(0))
        self.assertEqual(apply({0: i(1)}, a("v")), a("v"))

    def test_values_are_not_replaced_again(self):
        self.assertEqual(apply({0: v(1), 1: a("a")}, f("f", v(0), v(1))), f("f", v(1), a("a")))
        self.assertEqual(apply({0: v(1), 1: v(0)}, f("f", v(0), v(1))), f("f", v(1), v(0)))
        self.assertEqual(apply({0: f("s", v(0))}, v(0)), f("s", v(0)))

    def test_arguments_are_unchanged(self):
        substitution = {0: v(1), 1: a("a")}
        apply(substitution, f("f", v(0), v(1)))
        self.assertEqual(substitution, {0: v(1), 1: a("a")})

    def test_deep_terms(self):
        for make in (lambda last: chain("s", DEPTH, last), lambda last: left_chain("-", 499, last),
                     lambda last: right_chain("-", 499, last)):
            self.assertEqual(apply({0: make(v(1))}, make(v(0))), make(make(v(1))))


class Compose(unittest.TestCase):

    def test_compose(self):
        self.assertEqual(compose({0: f("g", v(1))}, {1: a("a")}), {0: f("g", a("a")), 1: a("a")})
        self.assertEqual(compose({0: v(1)}, {0: a("a")}), {0: v(1)})
        self.assertEqual(compose({0: v(1)}, {1: a("a")}), {0: a("a"), 1: a("a")})
        self.assertEqual(compose({}, {1: a("a")}), {1: a("a")})
        self.assertEqual(compose({1: a("a")}, {}), {1: a("a")})
        self.assertEqual(compose({}, {}), {})

    def test_no_key_is_mapped_to_itself(self):
        self.assertEqual(compose({0: v(1)}, {1: v(0)}), {1: v(0)})
        self.assertEqual(compose({0: v(0)}, {}), {})
        self.assertEqual(compose({}, {0: v(0), 1: i(2)}), {1: i(2)})
        self.assertEqual(compose({0: v(1)}, {1: v(0), 0: i(3)}), {1: v(0)})
        self.assertEqual(compose({0: v(0)}, {0: a("a")}), {0: a("a")})

    def test_effect(self):
        source = seeded(11)
        for _ in range(500):
            first, second = [
                {number: random_term(source, 4, ["a", "b"]) for number in range(4) if source.randrange(2)}
                for _ in range(2)
            ]
            both = compose(first, second)
            for number in range(5):
                self.assertEqual(apply(both, v(number)), apply(second, apply(first, v(number))))
                self.assertNotEqual(both.get(number), v(number))
            self.assertLessEqual(set(both), set(first) | set(second))

    def test_arguments_and_results(self):
        first, second = {0: v(1)}, {1: a("a"), 2: v(2)}
        found = compose(first, second)
        found[9] = i(1)
        self.assertEqual((first, second), ({0: v(1)}, {1: a("a"), 2: v(2)}))
        kept = {1: a("a")}
        compose({}, kept)[5] = i(1)
        compose(kept, {})[5] = i(1)
        self.assertEqual(kept, {1: a("a")})

    def test_deep_terms(self):
        deep = chain("s", DEPTH, v(1))
        self.assertEqual(compose({0: deep}, {1: a("a")}), {0: chain("s", DEPTH, a("a")), 1: a("a")})


class Unify(unittest.TestCase):

    def test_example_of_the_document(self):
        found = unify(f("f", v(0), v(1)), f("f", v(1), a("a")))
        self.assertEqual(list(found.items()), [(1, (("f", "a", 0),)), (0, (("f", "a", 0),))])

    def test_equal_terms(self):
        for term in (v(0), i(3), a("a"), f("f", v(0), v(1)), items(v(0), i(1), tail=v(2))):
            self.assertEqual(unify(term, term), {})

    def test_different_nodes(self):
        pairs = [(i(1), i(2)), (a("a"), a("b")), (i(1), a("a")), (a("a"), f("a", i(1))), (i(0), a("0"))]
        pairs += [(f("f", i(1)), f("g", i(1))), (f("f", i(1)), f("f", i(1), i(1))), (f("f", v(0)), f("g", v(0)))]
        for left, right in pairs:
            self.assertIsNone(unify(left, right))
            self.assertIsNone(unify(right, left))
            self.assertIsNone(unify(f("h", v(0), left), f("h", i(1), right)))

    def test_two_variables(self):
        self.assertEqual(unify(v(0), v(1)), {1: v(0)})
        self.assertEqual(unify(v(1), v(0)), {1: v(0)})
        self.assertEqual(unify(f("f", v(5), v(3)), f("f", v(3), v(9))), {5: v(3), 9: v(3)})
        self.assertEqual(answer(f("f", v(0), v(1)), f("f", v(1), v(2))), [(1, v(0)), (2, v(0))])
        self.assertEqual(answer(f("f", v(2), v(1)), f("f", v(1), v(0))), [(2, v(0)), (1, v(0))])

    def test_one_variable(self):
        for term in (i(1), a("a"), f("f", v(1), v(2), a("b"))):
            self.assertEqual(unify(v(0), term), {0: term})
            self.assertEqual(unify(term, v(0)), {0: term})
            self.assertEqual(unify(v(7), term), {7: term})

    def test_what_was_found_is_applied(self):
        self.assertEqual(unify(f("f", v(0), v(0)), f("f", i(1), i(1))), {0: i(1)})
        self.assertIsNone(unify(f("f", v(0), v(0)), f("f", i(1), i(2))))
        self.assertEqual(
            answer(f("f", v(0), v(1)), f("f", f("g", v(1)), f("h", v(2)))),
            [(0, f("g", f("h", v(2)))), (1, f("h", v(2)))])
        self.assertEqual(
            answer(f("f", v(0), v(0), v(3)), f("f", f("g", v(1)), f("g", a("a")), v(0))),
            [(0, f("g", a("a"))), (1, a("a")), (3, f("g", a("a")))])

    def test_order_of_bindings(self):
        self.assertEqual(
            answer(f("f", v(3), v(1), v(2)), f("f", i(3), i(1), i(2))), [(3, i(3)), (1, i(1)), (2, i(2))])

    def test_occurring_variables(self):
        pairs = [(v(0), f("f", v(0))), (f("f", v(0), v(0)), f("f", v(1), f("g", v(1))))]
        pairs += [(f("f", v(0), v(1)), f("f", f("g", v(1)), f("g", v(0))))]
        pairs += [(f("f", v(0), v(1), v(0)), f("f", v(1), v(2), f("s", v(2))))]
        for left, right in pairs:
            self.assertIsNone(unify(left, right))
            self.assertIsNone(unify(right, left))

    def test_the_result_may_be_changed(self):
        left, right = f("f", v(0)), f("f", i(1))
        unify(left, right)[8] = i(1)
        unify(left, left)[8] = i(1)
        self.assertEqual(unify(left, right), {0: i(1)})
        self.assertEqual(unify(left, left), {})

    def test_against_the_words(self):
        source = seeded(12)
        for _ in range(4000):
            left = random_term(source, source.randrange(1, 12), ["a", "b"], arities=(1, 2, 3))
            right = random_term(source, source.randrange(1, 12), ["a", "b"], arities=(1, 2, 3))
            if source.randrange(2):
                left, right = f("f", left, *[v(k) for k in range(3)]), f("f", *[v(3 - k) for k in range(3)], right)
            with self.subTest((left, right)):
                self.assertEqual(answer(left, right), told(left, right))

    def test_unifiers(self):
        source = seeded(13)
        for _ in range(1000):
            left = random_term(source, 8, ["a"], numbers=6)
            right = random_term(source, 8, ["a"], numbers=6)
            found = unify(left, right)
            if found is not None:
                self.assertEqual(apply(found, left), apply(found, right))
                for number, value in found.items():
                    self.assertTrue(("v", number) in left or ("v", number) in right)
                    self.assertEqual(apply(found, value), value)

    def test_deep_terms(self):
        for make in (lambda last: chain("s", DEPTH, last), lambda last: left_chain("-", 499, last),
                     lambda last: right_chain("-", 499, last)):
            self.assertEqual(unify(make(v(0)), make(a("a"))), {0: a("a")})
            self.assertEqual(unify(make(v(0)), v(1)), {1: make(v(0))})
            self.assertIsNone(unify(make(v(0)), v(0)))
            self.assertIsNone(unify(make(i(0)), make(i(1))))

    def test_many_bindings(self):
        left = items(*[v(k) for k in range(499)])
        right = items(*[v(k + 1) for k in range(499)])
        self.assertEqual(list(unify(left, right).items()), [(k, v(0)) for k in range(1, 500)])


class TooLargeTerms(unittest.TestCase):

    def test_200_nodes(self):
        self.assertEqual(MOST_NODES, 200)
        term = sized(99)
        self.assertEqual(unify(f("h", v(0), v(0), a("c")), f("h", term, v(1), a("c"))), {0: term, 1: term})
        # 201 nodes: h, 100 and 100.
        with self.assertRaises(TooLarge):
            unify(f("h", v(0), v(0)), f("h", sized(100), v(1)))
        with self.assertRaises(TooLarge):
            unify(f("h", sized(100), v(1)), f("h", v(0), v(0)))

    def test_exactly_at_the_bound(self):
        for size, padding, fits in ((99, 1, True), (99, 2, False), (98, 3, True), (98, 4, False), (66, 67, True)):
            term = sized(size)
            left, right = f("h", v(0), v(0), sized(padding)), f("h", term, v(1), sized(padding))
            expected = [(0, term), (1, term)] if fits else "large"
            for one, other in ((left, right), (right, left)):
                self.assertEqual(answer(one, other), expected)
                self.assertEqual(told(one, other), expected)

    def test_above_200(self):
        term = sized(150)
        self.assertEqual(answer(f("h", v(0), v(0)), f("h", term, term)), [(0, term)])
        self.assertEqual(answer(f("h", term, term), f("h", v(0), v(0))), [(0, term)])
        for total in (200, 201, 300, 1000):
            # The right term has the total as its size, and becomes larger by nothing or by one.
            for size, fits in ((1, True), (2, False)):
                term, padding = sized(size), sized(total - 2 - size)
                left, right = f("h", v(0), v(0), v(1)), f("h", term, v(2), padding)
                self.assertEqual(len(right), total)
                expected = [(0, term), (2, term), (1, padding)] if fits else "large"
                self.assertEqual(answer(left, right), expected)
                self.assertEqual(answer(right, left), expected)

    def test_the_bound_comes_from_the_terms_as_they_were_passed(self):
        padding = sized(247)
        self.assertEqual(answer(f("h", v(0), v(1)), f("h", padding, a("c"))), [(0, padding), (1, a("c"))])
        self.assertEqual(answer(f("h", v(0), v(1), v(1)), f("h", sized(196), v(2), sized(2))), "large")

    def test_what_values_bring_into_the_terms_counts(self):
        for size, fits in ((65, True), (66, False)):
            term = sized(size)
            # Both terms become h(g(term), g(term), term).
            left, right = f("h", v(0), v(0), v(1)), f("h", f("g", v(1)), v(2), term)
            expected = [(0, f("g", term)), (2, f("g", term)), (1, term)] if fits else "large"
            self.assertEqual(answer(left, right), expected)
            self.assertEqual(answer(right, left), expected)
            self.assertEqual(len(f("h", f("g", term), f("g", term), term)), 198 if fits else 201)

    def test_values_that_are_replaced_later(self):
        # The first variable doubles with each of the following ones.
        for count in range(1, 9):
            left = f("h", *[v(k) for k in range(count)])
            right = f("h", *[f("p", v(k + 1), v(k + 1)) for k in range(count)])
            expected = told(left, right)
            self.assertEqual(answer(left, right), expected)
            self.assertEqual(answer(right, left), expected)
            self.assertEqual(expected == "large", count >= 6)

    def test_both_terms_count(self):
        left = f("h", v(0), v(1), v(1))
        right = f("h", sized(99), v(0), v(2))
        self.assertEqual(answer(left, right), told(left, right))
        self.assertEqual(answer(left, right), "large")
        self.assertEqual(answer(right, left), "large")

    def test_a_term_that_grows_step_by_step(self):
        # Each variable is twice the one before: 2, 4, 8 .. leaves.
        for count in range(1, 9):
            left = f("h", *[v(k + 1) for k in range(count)])
            right = f("h", *[f("p", v(k), v(k)) for k in range(count)])
            expected = told(left, right)
            self.assertEqual(answer(left, right), expected)
            self.assertEqual(expected == "large", count >= 6)

    def test_only_bindings_made_before_it_is_found_that_there_is_no_unifier(self):
        large = f("h", sized(100), v(1), a("a"))
        small = f("h", v(0), v(0), a("b"))
        self.assertEqual(answer(small, large), "large")
        large = f("h", a("a"), sized(100), v(1))
        small = f("h", a("b"), v(0), v(0))
        self.assertIsNone(unify(small, large))
        self.assertIsNone(unify(large, small))

    def test_a_variable_that_occurs_is_not_bound(self):
        inner = (("f", "s", 1),) * 120 + v(0)
        self.assertIsNone(unify(f("h", v(0), v(0)), f("h", inner, v(1))))

    def test_two_variables_never_make_a_term_larger(self):
        left, right = f("h", v(0), sized(500)), f("h", v(1), sized(500))
        self.assertEqual(unify(left, right), {1: v(0)})

    def test_against_the_words(self):
        source = seeded(14)
        large = 0
        for _ in range(400):
            left = f("h", *[v(source.randrange(6)) for _ in range(6)])
            right = f("h", *[random_term(source, source.choice((1, 10, 60)), ["a"], numbers=6) for _ in range(6)])
            if source.randrange(3) == 0:
                left, right = f("k", left, sized(source.choice((150, 250)))), f("k", right, v(7))
            expected = told(left, right)
            large += expected == "large"
            self.assertEqual(answer(left, right), expected)
            self.assertEqual(answer(right, left), told(right, left))
        self.assertGreater(large, 20)


class Matches(unittest.TestCase):

    def test_matches(self):
        general = f("f", v(0), f("g", v(1)), v(0))
        special = f("f", i(1), f("g", f("h", v(9))), i(1))
        self.assertEqual(matches(general, special), {0: i(1), 1: f("h", v(9))})
        self.assertEqual(matches(a("a"), a("a")), {})
        self.assertEqual(matches(v(3), special), {3: special})

    def test_no_match(self):
        pairs = [(f("f", v(0), v(0)), f("f", i(1), i(2))), (a("a"), a("b")), (i(1), i(2)), (a("a"), v(0))]
        pairs += [(f("f", v(0)), v(1)), (f("f", i(1)), f("f", v(0))), (f("f", v(0)), f("g", i(1)))]
        pairs += [(f("f", v(0)), f("f", i(1), i(2))), (f("f", v(0), i(1)), f("f", i(1), i(2)))]
        for general, special in pairs:
            self.assertIsNone(matches(general, special))

    def test_the_same_numbers_on_both_sides(self):
        self.assertEqual(matches(v(0), v(0)), {0: v(0)})
        self.assertEqual(matches(v(0), f("f", v(0))), {0: f("f", v(0))})
        self.assertEqual(matches(f("f", v(0), v(1)), f("f", v(1), v(0))), {0: v(1), 1: v(0)})
        self.assertIsNone(matches(f("f", v(0), v(0)), f("f", v(0), v(1))))
        self.assertEqual(matches(f("f", v(0), v(0)), f("f", v(1), v(1))), {0: v(1)})
        self.assertIsNone(matches(f("f", v(0), a("a")), f("f", v(1), v(0))))

    def test_keys_are_the_variables_of_general(self):
        source = seeded(15)
        for _ in range(1000):
            general = random_term(source, 6, ["a", "b"], numbers=3)
            values = {number: random_term(source, 3, ["a", "b"], numbers=3) for number in range(3)}
            special = apply(values, general)
            found = matches(general, special)
            self.assertEqual(found, {n: values[n] for n in range(3) if ("v", n) in general})

    def test_large_terms(self):
        general = f("f", v(0), v(0))
        special = f("f", sized(450), sized(450))
        self.assertEqual(matches(general, special), {0: sized(450)})

    def test_the_result_may_be_changed(self):
        matches(a("a"), a("a"))[1] = i(1)
        self.assertEqual(matches(a("a"), a("a")), {})

    def test_deep_terms(self):
        for make in (lambda last: chain("s", DEPTH, last), lambda last: left_chain("-", 499, last),
                     lambda last: right_chain("-", 499, last)):
            self.assertEqual(matches(make(v(0)), make(v(5))), {0: v(5)})
            self.assertEqual(matches(v(0), make(v(0))), {0: make(v(0))})
            self.assertIsNone(matches(make(i(0)), make(i(1))))


if __name__ == "__main__":
    unittest.main()
