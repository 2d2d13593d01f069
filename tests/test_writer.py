"""Point 19, and hornbook/writer.py."""

import unittest

from helper import DEPTH, EMPTY, a, chain, f, i, items, left_chain, random_term, right_chain, seeded, sized, v
from hornbook.errors import BadOperator, BadText
from hornbook.operators import initial_table, with_operator
from hornbook.reader import read_term
from hornbook.terms import are_variants
from hornbook.writer import write

NAMES = ["-", "+", "*", "=", ",", ";", "!", "a", "mod", "Q q", "[]", "{}", ".", "..", "it's", "|", ":-", "\\+", "f",
         "B", "1", "->", "--", "^", "#", "_x", "a#", " "]
# An operator of each form at the priority 300, and some at the ends.
MANY = initial_table()
for word in ((300, "fx", "pfx"), (300, "fy", "pfy"), (300, "xfx", "nxx"), (300, "xfy", "nxy"), (300, "yfx", "nyx"),
             (999, "xfx", "nine"), (1000, "xfx", "ten"), (999, "fy", "pnine"), (1000, "fy", "pten"),
             (700, "xfx", "Big one"), (700, "fy", "it's"), (700, "xfy", "#"), (300, "fy", "."), (300, "xfx", ".")):
    MANY = with_operator(MANY, *word)


class Case(unittest.TestCase):

    def writes(self, term, text, table=None):
        with self.subTest(text):
            table = initial_table() if table is None else table
            before = dict(table)
            self.assertEqual(write(term, table), text)
            self.assertEqual(table, before)
            self.assertTrue(are_variants(read_term(text + " .", table), term))


class Examples(Case):

    def test_examples_of_the_document(self):
        self.writes(f(":-", a("a"), f(",", a("b"), f("\\+", a("c")))), "a :- b, \\+ c")
        self.writes(f("-", i(1)), "- (1)")
        self.writes(f("-", i(1), f("-", i(2), i(3))), "1 - (2 - 3)")
        self.writes(f("+", i(-1), i(2)), "(-1) + 2")
        self.writes(items(a("a"), tail=v(0)), "[a|_0]")
        self.writes(f("f", f(":-", a("a"), a("b")), f("-", a("-"), i(1))), "f((a :- b),(-) - 1)")
        self.writes(f("[]", a("a")), "'[]'(a)")
        self.writes(f("{}", a("a"), a("b")), "'{}'(a,b)")
        self.writes(items(a("a"), a("b")), "[a,b]")
        self.writes(items(a("a"), a("b"), tail=v(5)), "[a,b|_0]")
        self.writes(f("{}", v(3)), "{_0}")
        self.writes(f("f", a("a"), a("b")), "f(a,b)")


class Leaves(Case):

    def test_variables(self):
        self.writes(v(7), "_0")
        self.writes(f("f", v(7), v(3), v(7), v(12)), "f(_0,_1,_0,_2)")
        self.writes(f("=", v(1), v(0)), "_0 = _1")
        self.writes(f("f", *[v(k) for k in range(8)]), "f(_0,_1,_2,_3,_4,_5,_6,_7)")

    def test_integers(self):
        for value in (0, 5, -5, 10 ** 40 - 1, 1 - 10 ** 40):
            self.writes(i(value), str(value))
        self.writes(f("f", i(-1), i(2)), "f(-1,2)")
        self.writes(items(i(-1), tail=i(-2)), "[-1|-2]")

    def test_names_without_quotes(self):
        for name in ("a", "aB_1", "x" * 40, "+", ":-", "..", "=..", "\\==", "!", ";", "[]", "{}", "--", "-", "mod"):
            self.writes(a(name), name)
        for name in ("a", "aB_1", "+++", "..", "!", ";", "->"):
            self.writes(f(name, i(1), i(2), i(3)), f"{name}(1,2,3)")

    def test_names_in_quotes(self):
        for name, text in (
                ("A", "'A'"), ("_", "'_'"), ("_a", "'_a'"), ("1", "'1'"), ("1a", "'1a'"), (" ", "' '"),
                ("a b", "'a b'"), (" a", "' a'"), ("a ", "'a '"), ("'", "''''"),
                ("it's", "'it''s'"), ("''", "''''''"), (",", "','"),
                ("|", "'|'"), ("(", "'('"), ("[", "'['"), ("a+", "'a+'"), ("+a", "'+a'"), ("!!", "'!!'"),
                (";;", "';;'"), (".", "'.'"), ("#", "'#'"), ("a#", "'a#'"),
                ("\"", "'\"'"), ("[ ]", "'[ ]'"), ("a.", "'a.'"),
                ("X" * 40, "'" + "X" * 40 + "'"), ("-1", "'-1'"), ("()", "'()'")):
            self.writes(a(name), text)
            self.writes(f(name, i(1), i(2), i(3)), f"{text}(1,2,3)")
        self.writes(f(".", a("a")), "'.'(a)")
        self.writes(f("[]", a("a"), a("b")), "'[]'(a,b)")
        self.writes(f("{}", a("a"), a("b"), a("c")), "'{}'(a,b,c)")

    def test_the_comma(self):
        self.writes(a(","), "','")
        self.writes(f(",", a("a")), "','(a)")
        self.writes(f(",", a("a"), a("b")), "a, b")
        self.writes(f(",", a("a"), a("b"), a("c")), "','(a,b,c)")
        self.writes(f("f", a(",")), "f(',')")
        self.writes(f(",", a("a"), a("b")), "','(a,b)", {})


class Compounds(Case):

    def test_arguments(self):
        self.writes(f("f", a("a"), f("g", v(0)), EMPTY), "f(a,g(_0),[])")
        self.writes(f("f", f("=", a("a"), a("b"))), "f(a = b)")
        self.writes(f("f", f("\\+", a("a"))), "f(\\+ a)")
        self.writes(f("f", f(",", a("a"), a("b"))), "f((a, b))")
        self.writes(f("f", f(";", a("a"), a("b")), i(1)), "f((a ; b),1)")
        self.writes(f("f", f(":-", a("a"))), "f((:- a))")
        self.writes(f("f", f("->", a("a"), a("b"))), "f((a -> b))")

    def test_999(self):
        self.writes(f("f", f("nine", a("a"), a("b"))), "f(a nine b)", MANY)
        self.writes(f("f", f("ten", a("a"), a("b"))), "f((a ten b))", MANY)
        self.writes(f("f", f("pnine", a("a"))), "f(pnine a)", MANY)
        self.writes(f("f", f("pten", a("a"))), "f((pten a))", MANY)
        self.writes(items(f("nine", a("a"), a("b")), tail=f("nine", a("a"), a("b"))), "[a nine b|a nine b]", MANY)
        self.writes(items(f("ten", a("a"), a("b")), tail=f("pten", a("a"))), "[(a ten b)|(pten a)]", MANY)

    def test_operator_names_of_other_arities(self):
        self.writes(f("=", a("a")), "=(a)")
        self.writes(f("-", a("a"), a("b"), a("c")), "-(a,b,c)")
        self.writes(f("\\+", a("a"), a("b")), "\\+(a,b)")
        self.writes(f("mod", i(1)), "mod(1)")
        self.writes(f("-", f("=", a("a"))), "- =(a)")

    def test_operators_in_quotes(self):
        self.writes(f("Big one", a("a"), a("b")), "'Big one'(a,b)", MANY)
        self.writes(f("it's", a("a")), "'it''s'(a)", MANY)
        self.writes(f("#", a("a"), a("b")), "'#'(a,b)", MANY)
        self.writes(f(".", a("a")), "'.'(a)", MANY)
        self.writes(f(".", a("a"), a("b")), "[a|b]", MANY)
        self.writes(f("Big one", f("ten", a("a"), a("b")), a("c")), "'Big one'((a ten b),c)", MANY)
        self.writes(f("-", f("Big one", a("a"), a("b")), i(1)), "'Big one'(a,b) - 1", MANY)

    def test_operators_as_atoms(self):
        self.writes(f("f", a("-"), a("="), a(":-")), "f(-,=,:-)")
        self.writes(items(a("-"), a("="), tail=a("+")), "[-,=|+]")
        self.writes(f("{}", a("-")), "{-}")
        self.writes(f("=", a("-"), a("=")), "(-) = (=)")
        self.writes(f("-", a("-")), "- (-)")
        self.writes(f("-", a("*")), "- (*)")
        self.writes(f("\\+", a(":-")), "\\+ (:-)")
        self.writes(f(",", a("a"), a("->")), "a, (->)")
        self.writes(f("-", a("!")), "- !")
        self.writes(f("-", EMPTY, a("{}")), "[] - {}")
        self.writes(f("+", a("a"), a("b")), "a + b")
        self.writes(f("=", a("pfx"), a("nxx")), "(pfx) = (nxx)", MANY)
        self.writes(f("f", a("pfx"), a("nxx")), "f(pfx,nxx)", MANY)
        self.writes(f("f", a("="), f("-", a("a"))), "f(=,-(a))", {})


class Brackets(Case):

    def test_lists(self):
        self.writes(EMPTY, "[]")
        self.writes(items(i(1)), "[1]")
        self.writes(items(v(4), v(2), v(4)), "[_0,_1,_0]")
        self.writes(items(items(), items(i(1), items(i(2)))), "[[],[1,[2]]]")
        self.writes(items(i(1), tail=a("a")), "[1|a]")
        self.writes(items(i(1), tail=f("f", i(2))), "[1|f(2)]")
        self.writes(items(i(1), tail=f("[]", i(2))), "[1|'[]'(2)]")
        self.writes(items(i(1), tail=f("{}", i(2))), "[1|{2}]")
        self.writes(items(f("=", i(1), i(2)), f("-", i(1))), "[1 = 2,- (1)]")
        self.writes(items(f(",", i(1), i(2)), tail=f(":-", i(1))), "[(1, 2)|(:- (1))]")

    def test_braces(self):
        self.writes(a("{}"), "{}")
        self.writes(f("{}", f(":-", a("a"), a("b"))), "{a :- b}")
        self.writes(f("{}", f(",", a("a"), a("b"))), "{a, b}")
        self.writes(f("{}", i(-1)), "{-1}")
        self.writes(f("{}", a("{}")), "{{}}")
        self.writes(f("-", f("{}", a("a"))), "- {a}")
        self.writes(f("f", f("{}", f(":-", a("a")))), "f({:- a})")


class PrefixOperators(Case):

    def test_space(self):
        self.writes(f("-", a("a")), "- a")
        self.writes(f("-", v(0)), "- _0")
        self.writes(f("\\+", f("f", a("a"))), "\\+ f(a)")
        self.writes(f("-", items(a("a"))), "- [a]")
        self.writes(f("-", a("A")), "- 'A'")
        self.writes(f("-", f("-", f("-", a("a")))), "- - - a")
        self.writes(f("-", f("=", i(1))), "- =(1)")

    def test_parentheses(self):
        self.writes(f("-", i(0)), "- (0)")
        self.writes(f("-", i(-1)), "- (-1)")
        self.writes(f("\\+", i(5)), "\\+ (5)")
        self.writes(f("-", f("-", i(1))), "- - (1)")
        self.writes(f("-", f("+", a("a"), a("b"))), "- (a + b)")
        self.writes(f("\\+", f(",", a("a"), a("b"))), "\\+ (a, b)")
        self.writes(f("\\+", f("=", a("a"), a("b"))), "\\+ a = b")
        self.writes(f("-", f("^", a("a"), a("b"))), "- a ^ b")
        self.writes(f("-", f("-", a("a"), a("b"))), "- (a - b)")
        self.writes(f(":-", f(":-", a("a"))), ":- (:- a)")
        self.writes(f("pfx", f("pfx", a("a"))), "pfx (pfx a)", MANY)
        self.writes(f("pfx", f("pfy", a("a"))), "pfx (pfy a)", MANY)
        self.writes(f("pfy", f("pfx", a("a"))), "pfy pfx a", MANY)
        self.writes(f("pfx", f("nxx", a("a"), a("b"))), "pfx (a nxx b)", MANY)
        self.writes(f("pfy", f("nxx", a("a"), a("b"))), "pfy a nxx b", MANY)

    def test_one_pair_where_the_argument_begins_with_a_parenthesis(self):
        self.writes(f("-", f("^", f("+", i(2), i(3)), i(2))), "- ((2 + 3) ^ 2)")
        self.writes(f("-", f("^", i(-1), i(2))), "- ((-1) ^ 2)")
        self.writes(f("-", f("^", i(1), i(2))), "- 1 ^ 2")
        self.writes(f("-", f("*", f("+", i(2), i(3)), i(2))), "- ((2 + 3) * 2)")
        self.writes(f("\\+", f("=", a("-"), a("a"))), "\\+ ((-) = a)")
        self.writes(f("\\+", f("=", f("=", a("a"), a("b")), a("c"))), "\\+ ((a = b) = c)")
        self.writes(f("\\+", f("=", f("+", f("-", i(-1), i(1)), i(2)), a("a"))), "\\+ ((-1) - 1 + 2 = a)")
        self.writes(f("\\+", f("=", a("a"), f("=", a("b"), a("c")))), "\\+ a = (b = c)")
        self.writes(f("\\+", f("=", f("-", i(1)), a("a"))), "\\+ - (1) = a")
        self.writes(f("-", f("^", f("^", a("a"), a("b")), a("c"))), "- ((a ^ b) ^ c)")


class InfixOperators(Case):

    def test_spaces(self):
        self.writes(f("=", a("a"), a("b")), "a = b")
        self.writes(f("mod", a("a"), a("b")), "a mod b")
        self.writes(f("..", i(1), i(2)), "1 .. 2")
        self.writes(f(":-", a("a"), a("b")), "a :- b")
        self.writes(f(",", a("a"), f(",", a("b"), a("c"))), "a, b, c")
        self.writes(f(";", f("->", a("a"), a("b")), a("c")), "a -> b ; c")
        self.writes(f("^", v(5), v(5)), "_0 ^ _0")

    def test_negative_integers(self):
        self.writes(f("-", i(-1), i(-2)), "(-1) - -2")
        self.writes(f("=", i(-1), i(-1)), "(-1) = -1")
        self.writes(f(",", i(-1), i(-1)), "(-1), -1")
        self.writes(f("-", i(1), i(2)), "1 - 2")
        self.writes(f("-", i(0), i(-1)), "0 - -1")
        self.writes(f("+", f("+", i(-1), i(-2)), i(-3)), "(-1) + -2 + -3")
        self.writes(f("^", f("-", i(1)), i(2)), "(- (1)) ^ 2")
        self.writes(f("-", f("-", i(1)), f("-", i(2))), "- (1) - - (2)")

    def test_forms(self):
        self.writes(f("-", f("-", a("a"), a("b")), a("c")), "a - b - c")
        self.writes(f("-", a("a"), f("-", a("b"), a("c"))), "a - (b - c)")
        self.writes(f("^", f("^", a("a"), a("b")), a("c")), "(a ^ b) ^ c")
        self.writes(f("^", a("a"), f("^", a("b"), a("c"))), "a ^ b ^ c")
        self.writes(f("=", f("=", a("a"), a("b")), a("c")), "(a = b) = c")
        self.writes(f("=", a("a"), f("=", a("b"), a("c"))), "a = (b = c)")
        self.writes(f(",", f(",", a("a"), a("b")), a("c")), "(a, b), c")
        self.writes(f(":-", f(":-", a("a"), a("b")), a("c")), "(a :- b) :- c")

    def test_priorities(self):
        self.writes(f("*", f("+", a("a"), a("b")), a("c")), "(a + b) * c")
        self.writes(f("+", f("*", a("a"), a("b")), a("c")), "a * b + c")
        self.writes(f("*", a("a"), f("+", a("b"), a("c"))), "a * (b + c)")
        self.writes(f("+", a("a"), f("*", a("b"), a("c"))), "a + b * c")
        self.writes(f("=", f("\\+", a("a")), f("\\+", a("b"))), "(\\+ a) = (\\+ b)")
        self.writes(f(",", f("\\+", a("a")), f("\\+", a("b"))), "\\+ a, \\+ b")
        self.writes(f("*", f("-", a("a")), f("-", a("b"))), "- a * - b")
        self.writes(f("^", f("-", a("a")), f("-", a("b"))), "(- a) ^ - b")
        self.writes(f("->", f(";", a("a"), a("b")), a("c")), "(a ; b) -> c")

    def test_the_same_priority(self):
        one, other = f("nxy", a("a"), a("b")), f("nyx", a("a"), a("b"))
        third, fourth, fifth = f("nxx", a("a"), a("b")), f("pfx", a("a")), f("pfy", a("a"))
        for left, text in ((one, "(a nxy b)"), (other, "a nyx b"), (third, "a nxx b"), (fourth, "pfx a"),
                           (fifth, "(pfy a)")):
            self.writes(f("nyx", left, a("c")), text + " nyx c", MANY)
        for left, text in ((one, "a nxy b"), (other, "a nyx b"), (third, "a nxx b"), (fourth, "pfx a"),
                           (fifth, "pfy a")):
            self.writes(f("nxy", left, a("c")), f"({text}) nxy c", MANY)
            self.writes(f("nxx", left, a("c")), f"({text}) nxx c", MANY)
            self.writes(f("nxy", a("c"), left), "c nxy " + text, MANY)
            self.writes(f("nyx", a("c"), left), f"c nyx ({text})", MANY)
            self.writes(f("nxx", a("c"), left), f"c nxx ({text})", MANY)

    def test_arguments_of_one_less(self):
        table = initial_table()
        for line in ((400, "fx", "p4"), (399, "fx", "p3"), (400, "fy", "q4"), (400, "xfx", "x4"), (399, "xfx", "x3"),
                     (400, "yfx", "l4"), (400, "xfy", "r4")):
            table = with_operator(table, *line)
        less = f("x3", a("a"), a("b"))
        self.writes(f("p4", less), "p4 a x3 b", table)
        self.writes(f("p4", f("p3", a("a"))), "p4 p3 a", table)
        self.writes(f("p4", f("q4", a("a"))), "p4 (q4 a)", table)
        for name in ("x4", "l4", "r4"):
            self.writes(f(name, less, less), f"a x3 b {name} a x3 b", table)
            self.writes(f(name, f("p3", a("a")), f("p3", a("b"))), f"p3 a {name} p3 b", table)

    def test_priority_0(self):
        table = with_operator(with_operator(initial_table(), 1, "fx", "one"), 1, "xfx", "low")
        self.writes(f("one", a("a")), "one a", table)
        self.writes(f("one", v(3)), "one _0", table)
        self.writes(f("one", f("f", a("a"))), "one f(a)", table)
        self.writes(f("one", items(a("a"))), "one [a]", table)
        self.writes(f("one", f("{}", a("a"))), "one {a}", table)
        self.writes(f("one", EMPTY), "one []", table)
        self.writes(f("low", i(1), i(-1)), "1 low -1", table)
        self.writes(f("low", f("{}", i(1)), v(0)), "{1} low _0", table)
        self.writes(f("low", f("one", a("a")), f("low", a("a"), a("b"))), "(one a) low (a low b)", table)
        self.writes(f("one", f("one", a("a"))), "one (one a)", table)

    def test_tables_without_operators(self):
        self.writes(f(":-", f("-", i(1)), f("+", i(-1), i(2))), ":-(-(1),+(-1,2))", {})
        self.writes(f("f", f(",", a("a"), a("b")), a("-")), "f(','(a,b),-)", {})
        self.writes(items(f("-", i(-1)), tail=f("=", i(1), i(2))), "[-(-1)|=(1,2)]", {})
        table = with_operator(initial_table(), 0, "xfx", "=")
        self.writes(f("=", f("-", i(1)), i(2)), "=(- (1),2)", table)


class ReadsBack(unittest.TestCase):

    def random_table(self, source):
        table = {} if source.randrange(3) == 0 else initial_table()
        for _ in range(source.choice((0, 3, 12))):
            priority = source.choice((0, 1, 2, 200, 200, 500, 700, 999, 1000, 1001, 1199, 1200))
            try:
                table = with_operator(table, priority, source.choice(("fx", "fy", "xfx", "xfy", "yfx")),
                                      source.choice(NAMES))
            except BadOperator:
                pass
        return table

    def test_random_terms_and_tables(self):
        source = seeded(21)
        for _ in range(4000):
            table = self.random_table(source)
            term = random_term(source, source.randrange(1, 9), NAMES)
            text = write(term, table)
            try:
                found = read_term(text + " .", table)
            except BadText as error:
                self.fail(f"{term} is written {text}, which cannot be read at {error.at} under {table}")
            self.assertTrue(are_variants(found, term), (term, text, table))

    def test_large_terms(self):
        source = seeded(22)
        for _ in range(40):
            term = f("f", *[random_term(source, 12, NAMES) for _ in range(8)])
            if len(term) <= 1000:
                text = write(term, MANY)
                self.assertTrue(are_variants(read_term(text + " .", MANY), term), text)

    def test_100_elements(self):
        term = items(*[f("-", i(k)) for k in range(100)])
        self.assertEqual(read_term(write(term, initial_table()) + " .", initial_table()), term)

    def test_60_calls(self):
        for term in (chain("f", 59, v(0)), chain("-", 59, v(0)), chain("\\+", 59, a("a")),
                     right_chain("^", 59, a("a"))):
            self.assertEqual(read_term(write(term, initial_table()) + " .", initial_table()), term)


class Deep(unittest.TestCase):

    def test_deep_terms(self):
        table = initial_table()
        self.assertEqual(write(chain("f", DEPTH, v(5)), table), "f(" * DEPTH + "_0" + ")" * DEPTH)
        self.assertEqual(write(chain("-", DEPTH, a("a")), table), "- " * DEPTH + "a")
        self.assertEqual(write(chain("{}", DEPTH, a("a")), table), "{" * DEPTH + "a" + "}" * DEPTH)
        self.assertEqual(write(chain(":-", DEPTH, a("a")), table), ":- (" * (DEPTH - 1) + ":- a" + ")" * (DEPTH - 1))
        self.assertEqual(write(chain("=", DEPTH, a("a")), table), "=(" * DEPTH + "a" + ")" * DEPTH)
        self.assertEqual(write(left_chain("-", 499, a("a")), table), "a" + " - x" * 499)
        self.assertEqual(write(right_chain("^", 499, a("a")), table), "x ^ " * 499 + "a")
        self.assertEqual(write(right_chain(",", 499, a("a")), table), "x, " * 499 + "a")
        self.assertEqual(write(right_chain("-", 499, a("a")), table), "x - (" * 498 + "x - a" + ")" * 498)
        self.assertEqual(write(left_chain("^", 499, a("a")), table), "(" * 498 + "a ^ x" + ") ^ x" * 498)
        self.assertEqual(write(items(*[i(1)] * 499), table), "[" + "1," * 498 + "1]")
        self.assertEqual(write(right_chain(".", 499, v(2)), table), "[" + "x," * 498 + "x|_0]")
        self.assertEqual(write(left_chain(".", 499, a("a")), table), "[" * 499 + "a" + "|x]" * 499)
        self.assertEqual(write(sized(1000), table), "s(" * 999 + "c" + ")" * 999)

    def test_operators_over_a_left_chain(self):
        # Each prefix operator asks whether its argument begins with a parenthesis.
        term = a("-")
        for _ in range(300):
            term = f("\\+", f("=", term, a("a")))
        text = write(term, initial_table())
        self.assertEqual(text.count("(-)"), 1)
        self.assertEqual(text[:22], "\\+ ((\\+ ((\\+ ((\\+ ((\\+")


if __name__ == "__main__":
    unittest.main()
