"""Points 16 to 18, and hornbook/reader.py."""

import unittest

from helper import EMPTY, a, chain, f, i, items, v
from hornbook.errors import BadText
from hornbook.operators import initial_table, with_operator
from hornbook.reader import read_clauses, read_term

# An operator of each form, and names that are operators of both places.
MANY = initial_table()
for word in ((300, "fx", "pfx"), (300, "fy", "pfy"), (300, "xfx", "nxx"), (300, "xfy", "nxy"), (300, "yfx", "nyx"),
             (300, "fy", "both"), (300, "yfx", "both"), (1, "fx", "one"), (1200, "fy", "top"), (1, "xfx", "low")):
    MANY = with_operator(MANY, *word)


class Case(unittest.TestCase):

    def reads(self, text, expected, table=None):
        with self.subTest(text):
            table = initial_table() if table is None else table
            before = dict(table)
            self.assertEqual(read_term(text + " .", table), expected)
            self.assertEqual(read_clauses(text + " .", table), [expected])
            self.assertEqual(table, before)

    def bad(self, text, at, table=None):
        """Reading fails at an index."""
        with self.subTest(text):
            table = initial_table() if table is None else table
            for read in (read_term, read_clauses):
                with self.assertRaises(BadText) as caught:
                    read(text, table)
                self.assertEqual(caught.exception.at, at)


class FirstParts(Case):

    def test_integers_and_variables(self):
        self.reads("0", i(0))
        self.reads("12", i(12))
        self.reads("007", i(7))
        self.reads("9" * 40, i(10 ** 40 - 1))
        self.reads("X", v(0))
        self.reads("_", v(0))
        self.reads("_a", v(0))

    def test_variables(self):
        self.reads("f(X, Y, X)", f("f", v(0), v(1), v(0)))
        self.reads("f(Y, X, Y)", f("f", v(0), v(1), v(0)))
        self.reads("f(_, X, _, X, _)", f("f", v(0), v(1), v(2), v(1), v(3)))
        self.reads("f(_A, _, _A)", f("f", v(0), v(1), v(0)))
        self.reads("f(__, __)", f("f", v(0), v(0)))
        self.reads("X = Y, Y = Z", f(",", f("=", v(0), v(1)), f("=", v(1), v(2))))
        self.reads("[X|Y] - Y + X", f("+", f("-", items(v(0), tail=v(1)), v(1)), v(0)))

    def test_atoms(self):
        for name in ("a", "abc", "!", ";", "+", "=", ":-", "\\+", "-", "mod", "++", "is"):
            self.reads(name, a(name))
        for text, name in (
                ("'a'", "a"), ("'A b'", "A b"), ("'[]'", "[]"), ("'it''s'", "it's"), ("','", ","), ("'-'", "-")):
            self.reads(text, a(name))

    def test_parentheses(self):
        self.reads("(a)", a("a"))
        self.reads("((a))", a("a"))
        self.reads("(a :- b)", f(":-", a("a"), a("b")))
        self.reads("( - )", a("-"))
        self.reads("f((a, b))", f("f", f(",", a("a"), a("b"))))

    def test_lists(self):
        self.reads("[]", EMPTY)
        self.reads("[ ]", EMPTY)
        self.reads("[a]", items(a("a")))
        self.reads("[1, B, c]", items(i(1), v(0), a("c")))
        self.reads("[a|b]", items(a("a"), tail=a("b")))
        self.reads("[a, b|C]", items(a("a"), a("b"), tail=v(0)))
        self.reads("[a|[b]]", items(a("a"), a("b")))
        self.reads("[a|[]]", items(a("a")))
        self.reads("[[]]", items(EMPTY))
        self.reads("[a = b, - 1]", items(f("=", a("a"), a("b")), f("-", i(1))))
        self.reads("[(a :- b)|(c :- d)]", items(f(":-", a("a"), a("b")), tail=f(":-", a("c"), a("d"))))

    def test_braces(self):
        self.reads("{}", a("{}"))
        self.reads("{ }", a("{}"))
        self.reads("{a}", f("{}", a("a")))
        self.reads("{a, b}", f("{}", f(",", a("a"), a("b"))))
        self.reads("{a :- b}", f("{}", f(":-", a("a"), a("b"))))
        self.reads("{-}", f("{}", a("-")))

    def test_compound_terms(self):
        self.reads("f(a)", f("f", a("a")))
        self.reads("f(a, B, 3)", f("f", a("a"), v(0), i(3)))
        self.reads("f( a,b )", f("f", a("a"), a("b")))
        self.reads("'f g'(a)", f("f g", a("a")))
        self.reads("'[]'(a)", f("[]", a("a")))
        self.reads("','(a, b)", f(",", a("a"), a("b")))
        self.reads("+(a)", f("+", a("a")))
        self.reads("+(a, b)", f("+", a("a"), a("b")))
        self.reads("-(1)", f("-", i(1)))
        self.reads("-(1, 2)", f("-", i(1), i(2)))
        self.reads("\\+(a, b, c)", f("\\+", a("a"), a("b"), a("c")))
        self.reads("!(a)", f("!", a("a")))
        self.reads("'.'(a, [])", items(a("a")))
        self.reads(".(a, [])", items(a("a")))
        self.reads("f(a = b, - c)", f("f", f("=", a("a"), a("b")), f("-", a("c"))))
        self.reads("f((a :- b))", f("f", f(":-", a("a"), a("b"))))
        self.reads("f(-, =, -)", f("f", a("-"), a("="), a("-")))

    def test_arities(self):
        for count in range(1, 9):
            self.reads(f"f({','.join(['1'] * count)})", f("f", *[i(1)] * count))
        self.bad("f(1,2,3,4,5,6,7,8,9).", 18)
        self.bad("f(1,2,3,4,5,6,7,8, 9).", 19)
        self.bad("f(1,2,3,4,5,6,7,8,9,10).", 18)
        self.bad("f(1,2,3,4,5,6,7,8,).", 18)
        self.bad("f(1,2,3,4,5,6,7,8, ", 19)
        self.bad("f(1,2,3,4,5,6,7,8,9", 18)

    def test_negative_integers(self):
        self.reads("-1", i(-1))
        self.reads("-0", i(0))
        self.reads("-" + "9" * 40, i(1 - 10 ** 40))
        self.reads("- 1", f("-", i(1)))
        self.reads("-#c\n1", f("-", i(1)))
        self.reads("-\n1", f("-", i(1)))
        self.reads("-(1)", f("-", i(1)))
        self.reads("- (1)", f("-", i(1)))
        self.reads("- -1", f("-", i(-1)))
        self.reads("- - 1", f("-", f("-", i(1))))
        self.reads("[-1, - 1]", items(i(-1), f("-", i(1))))
        self.reads("'-'(1)", f("-", i(1)))
        self.reads("a -1", f("-", a("a"), i(1)))
        self.reads("a-1", f("-", a("a"), i(1)))
        self.reads("2-1", f("-", i(2), i(1)))
        self.reads("a - -1", f("-", a("a"), i(-1)))
        self.reads("a - - 1", f("-", a("a"), f("-", i(1))))
        self.reads("-1 + 2", f("+", i(-1), i(2)))
        self.reads("- 1 + 2", f("+", f("-", i(1)), i(2)))
        self.reads("-1 ^ 2", f("^", i(-1), i(2)))
        self.reads("-1", i(-1), table={})
        self.reads("-1 low -2", f("low", i(-1), i(-2)), MANY)
        self.reads("one -1", f("one", i(-1)), MANY)
        self.bad("'-'1.", 3)
        self.bad("'-' 1.", 4)
        self.bad("- 1.", 2, table={})
        self.bad("+1.", 1)

    def test_compound_terms_need_the_parenthesis_directly_behind(self):
        self.bad("f (a).", 2)
        self.bad("'f' (a).", 4)
        self.bad("X(a).", 1)
        self.bad("1(a).", 1)
        self.bad("[](a).", 2)
        self.bad("{}(a).", 2)
        self.bad("(f)(a).", 3)
        self.bad("f(a)(b).", 4)
        self.bad("f#\n(a).", 3)

    def test_the_comma_never_begins_a_part(self):
        self.bad(", a.", 0)
        self.bad(",(a, b).", 0)
        self.bad(",.", 0)
        self.bad("f(,).", 2)
        self.bad("f(,(a,b)).", 2)
        self.bad("[,].", 1)
        self.bad("(,).", 1)
        self.bad("a = , .", 4)
        self.reads("- ,(a)", f(",", a("-"), a("a")))

    def test_what_cannot_begin_a_part(self):
        for text in (")", "]", "}", "|", "."):
            self.bad(text, 0)
            self.bad("f(" + text, 2)
            self.bad("a = " + text, 4)
            self.bad("a , " + text, 4)
            self.bad("(" + text, 1)
            self.bad("[a, " + text, 4)
            self.bad("[a|" + text, 3)
        self.bad("f().", 2)
        self.bad("f(a,).", 4)
        self.bad("[|a].", 1)
        self.bad("[a,].", 3)
        self.bad("[a|].", 3)
        self.bad("().", 1)

    def test_what_cannot_follow(self):
        self.bad("a b.", 2)
        self.bad("a 1.", 2)
        self.bad("a X.", 2)
        self.bad("a 'b'.", 2)
        self.bad("a '=' b.", 2)
        self.bad("a ',' b.", 2)
        self.bad("a [].", 2)
        self.bad("a {}.", 2)
        self.bad("a ).", 2)
        self.bad("a | b.", 2)
        self.bad("a.b.", 1)
        self.bad("1 2.", 2)
        self.bad("(a b).", 3)
        self.bad("(a].", 2)
        self.bad("f(a b).", 4)
        self.bad("f(a|b).", 3)
        self.bad("f(a].", 3)
        self.bad("[a b].", 3)
        self.bad("[a|b,c].", 4)
        self.bad("[a|b|c].", 4)
        self.bad("[a).", 2)
        self.bad("{a b}.", 3)
        self.bad("{a|b}.", 2)
        self.bad("{a].", 2)
        self.bad("[a]].", 3)
        self.bad("(a :- b :- c).", 8)
        self.bad("f(a :- b).", 4)
        self.bad("[a :- b].", 3)
        self.bad("[a|b :- c].", 5)

    def test_the_end_of_the_text(self):
        for text in ("", " ", "# c", "a", "a ", "a # c", "f(", "f(a", "f(a,", "f(a)", "(", "(a", "(a)", "[", "[a",
                     "[a,", "[a|", "[a|b", "[a]", "{", "{a", "{a}", "-", "- ", "-1", "a =", "a = b", "a, ", "\\+ "):
            with self.subTest(text):
                with self.assertRaises(BadText) as caught:
                    read_term(text, initial_table())
                self.assertEqual(caught.exception.at, len(text))


class PrefixOperators(Case):

    def test_each_token_that_can_begin_the_argument(self):
        self.reads("\\+ 1", f("\\+", i(1)))
        self.reads("\\+1", f("\\+", i(1)))
        self.reads("\\+ X", f("\\+", v(0)))
        self.reads("\\+'a'", f("\\+", a("a")))
        self.reads("\\+ '='", f("\\+", a("=")))
        self.reads("\\+ '='(a, b)", f("\\+", f("=", a("a"), a("b"))))
        self.reads("\\+ (a, b)", f("\\+", f(",", a("a"), a("b"))))
        self.reads("\\+ [a]", f("\\+", items(a("a"))))
        self.reads("\\+[]", f("\\+", EMPTY))
        self.reads("\\+ {a}", f("\\+", f("{}", a("a"))))
        self.reads("\\+ a", f("\\+", a("a")))
        self.reads("\\+a", f("\\+", a("a")))
        self.reads("\\+ !", f("\\+", a("!")))
        self.reads("\\+ f(a)", f("\\+", f("f", a("a"))))
        self.reads("\\+ - a", f("\\+", f("-", a("a"))))
        self.reads("\\+ -", f("\\+", a("-")))
        self.reads("\\+ \\+ a", f("\\+", f("\\+", a("a"))))
        self.reads("\\+ =(a, b)", f("\\+", f("=", a("a"), a("b"))))
        self.reads("\\+ mod(a, b)", f("\\+", f("mod", a("a"), a("b"))))
        self.reads("- - ", f("-", a("-")))
        self.reads("- -", f("-", a("-")))

    def test_as_an_atom_before_each_token_that_cannot(self):
        self.reads("\\+", a("\\+"))
        self.reads("(\\+)", a("\\+"))
        self.reads("f(\\+)", f("f", a("\\+")))
        self.reads("f(\\+, a)", f("f", a("\\+"), a("a")))
        self.reads("[\\+]", items(a("\\+")))
        self.reads("[-|a]", items(a("-"), tail=a("a")))
        self.reads("[-, -]", items(a("-"), a("-")))
        self.reads("{-}", f("{}", a("-")))
        self.reads("\\+ = a", f("=", a("\\+"), a("a")))
        self.reads("- = a", f("=", a("-"), a("a")))
        self.reads("- = (a, b)", f("=", a("-"), f(",", a("a"), a("b"))))
        self.reads("\\+ , a", f(",", a("\\+"), a("a")))
        self.reads("- mod a", f("mod", a("-"), a("a")))
        self.reads("- ; a", f(";", a("-"), a("a")))
        self.bad("- = .", 4)

    def test_the_name_may_also_be_an_infix_operator(self):
        self.reads("- - a", f("-", f("-", a("a"))))
        self.reads("- - - a", f("-", f("-", f("-", a("a")))))
        self.reads("a - - a", f("-", a("a"), f("-", a("a"))))
        self.reads("- a - - a", f("-", f("-", a("a")), f("-", a("a"))))
        self.reads(":- - a", f(":-", f("-", a("a"))))
        self.reads("both both", f("both", a("both")), MANY)
        self.reads("both both both", f("both", f("both", a("both"))), MANY)
        self.reads("a both both", f("both", a("a"), a("both")), MANY)
        self.reads("a both both b", f("both", a("a"), f("both", a("b"))), with_operator(MANY, 200, "fy", "both"))
        table = with_operator(initial_table(), 0, "fy", "-")
        table = with_operator(table, 300, "fy", "foo")
        self.reads("foo - 1", f("-", a("foo"), i(1)), table)
        self.reads("foo -1", f("-", a("foo"), i(1)), table)
        self.reads("foo -(1)", f("foo", f("-", i(1))), table)
        table = with_operator(initial_table(), 300, "fy", "foo")
        self.reads("foo - 1", f("foo", f("-", i(1))), table)
        self.reads("foo -1", f("foo", i(-1)), table)
        self.reads("foo (1)", f("foo", i(1)), table)
        self.reads("foo(1)", f("foo", i(1)), table)
        self.reads("foo (1) + 2", f("+", f("foo", i(1)), i(2)), table)
        self.reads("foo(1, 2)", f("foo", i(1), i(2)), table)
        self.bad("foo (1, 2), 3 4.", 14, table)

    def test_the_priority_must_not_exceed_that_of_the_place(self):
        self.bad("f(:- a).", 5)
        self.reads("f(:-)", f("f", a(":-")))
        self.reads("f((:- a))", f("f", f(":-", a("a"))))
        self.bad("[:- a].", 4)
        self.bad("- :- a.", 5)
        self.bad("a = \\+ b.", 7)
        self.reads("a = \\+", f("=", a("a"), a("\\+")))
        self.reads("a, \\+ b", f(",", a("a"), f("\\+", a("b"))))
        self.bad(":- :- a.", 6)
        self.reads(":- (:- a)", f(":-", f(":-", a("a"))))
        self.reads("top top a", f("top", f("top", a("a"))), MANY)
        self.bad("f(top a).", 6, MANY)
        self.bad("pfx pfx a.", 8, MANY)
        self.reads("pfx pfx", f("pfx", a("pfx")), MANY)
        self.reads("pfy pfy a", f("pfy", f("pfy", a("a"))), MANY)
        self.reads("pfx pfy", f("pfx", a("pfy")), MANY)
        self.bad("pfx pfy a.", 8, MANY)
        self.reads("pfy pfx a", f("pfy", f("pfx", a("a"))), MANY)
        self.reads("one a", f("one", a("a")), MANY)
        self.bad("one one a.", 8, MANY)
        self.bad("one a low b.", 6, MANY)

    def test_the_argument(self):
        self.reads("- a ^ b", f("-", f("^", a("a"), a("b"))))
        self.reads("- a * b", f("*", f("-", a("a")), a("b")))
        self.reads("\\+ a = b", f("\\+", f("=", a("a"), a("b"))))
        self.reads("\\+ a, b", f(",", f("\\+", a("a")), a("b")))
        self.reads(":- a, b", f(":-", f(",", a("a"), a("b"))))
        self.bad(":- a :- b.", 5)
        self.reads("pfx a nxx b", f("nxx", f("pfx", a("a")), a("b")), with_operator(MANY, 400, "xfx", "nxx"))
        self.reads("pfy a nxx b", f("pfy", f("nxx", a("a"), a("b"))), MANY)
        self.bad("pfx a nxx b.", 6, MANY)
        self.reads("pfx a nyx b", f("nyx", f("pfx", a("a")), a("b")), MANY)
        self.bad("pfx a nxy b.", 6, MANY)


class InfixOperators(Case):

    def test_forms(self):
        self.reads("a = b", f("=", a("a"), a("b")))
        self.bad("a = b = c.", 6)
        self.bad("a :- b :- c.", 7)
        self.reads("a - b - c", f("-", f("-", a("a"), a("b")), a("c")))
        self.reads("a - b + c - d", f("-", f("+", f("-", a("a"), a("b")), a("c")), a("d")))
        self.reads("a - (b - c)", f("-", a("a"), f("-", a("b"), a("c"))))
        self.reads("a ^ b ^ c", f("^", a("a"), f("^", a("b"), a("c"))))
        self.reads("(a ^ b) ^ c", f("^", f("^", a("a"), a("b")), a("c")))
        self.reads("a, b, c", f(",", a("a"), f(",", a("b"), a("c"))))
        self.reads("(a = b) = c", f("=", f("=", a("a"), a("b")), a("c")))
        self.reads("a = (b = c)", f("=", a("a"), f("=", a("b"), a("c"))))

    def test_each_initial_operator(self):
        for (name, place), (priority, form) in initial_table().items():
            if place == "prefix":
                continue
            once = f(name, a("a"), a("b"))
            self.reads(f"a {name} b", once)
            text = f"a {name} b {name} c"
            if form == "xfx":
                self.bad(text + " .", 5 + len(name))
            elif form == "xfy":
                self.reads(text, f(name, a("a"), f(name, a("b"), a("c"))))
            else:
                self.reads(text, f(name, once, a("c")))

    def test_priorities(self):
        self.reads("a + b * c", f("+", a("a"), f("*", a("b"), a("c"))))
        self.reads("a * b + c", f("+", f("*", a("a"), a("b")), a("c")))
        self.reads("a * b ^ c", f("*", a("a"), f("^", a("b"), a("c"))))
        self.reads("a ^ b * c", f("*", f("^", a("a"), a("b")), a("c")))
        self.reads("x :- y is 1 + 2, z",
                   f(":-", a("x"), f(",", f("is", a("y"), f("+", i(1), i(2))), a("z"))))
        self.reads("a -> b ; c", f(";", f("->", a("a"), a("b")), a("c")))
        self.reads("a ; b -> c", f(";", a("a"), f("->", a("b"), a("c"))))
        self.reads("a :- b, c ; d", f(":-", a("a"), f(";", f(",", a("b"), a("c")), a("d"))))
        self.reads("X in 1 .. 3", f("in", v(0), f("..", i(1), i(3))))
        self.reads("X in 1..3", f("in", v(0), f("..", i(1), i(3))))
        self.reads("1 * 2 .. 3 * 4", f("..", f("*", i(1), i(2)), f("*", i(3), i(4))))
        self.reads("a .. b + c .. d", f("+", f("..", a("a"), a("b")), f("..", a("c"), a("d"))))
        self.bad("1 .. 2 .. 3.", 7)

    def test_arguments_of_one_less(self):
        table = initial_table()
        for line in ((400, "fx", "p4"), (399, "fx", "p3"), (398, "fx", "p2"), (400, "xfx", "x4"), (399, "xfx", "x3"),
                     (400, "yfx", "l4"), (400, "xfy", "r4"), (400, "fy", "q4")):
            table = with_operator(table, *line)
        less = f("x3", a("a"), a("b"))
        self.reads("p4 a x3 b", f("p4", less), table)
        self.reads("p4 p3 a", f("p4", f("p3", a("a"))), table)
        self.reads("p4 p3 p2 a", f("p4", f("p3", f("p2", a("a")))), table)
        self.reads("a x3 b x4 a x3 b", f("x4", less, less), table)
        self.reads("a x3 b l4 a x3 b", f("l4", less, less), table)
        self.reads("a x3 b r4 a x3 b", f("r4", less, less), table)
        self.reads("a x4 p3 b", f("x4", a("a"), f("p3", a("b"))), table)
        self.reads("a l4 p3 b", f("l4", a("a"), f("p3", a("b"))), table)
        self.reads("a r4 q4 b", f("r4", a("a"), f("q4", a("b"))), table)
        self.bad("a x4 q4 b.", 8, table)
        self.bad("a l4 q4 b.", 8, table)
        self.bad("p4 q4 b.", 6, table)
        self.bad("p4 a x4 b.", 5, table)
        self.bad("a x3 p4 b.", 8, table)

    def test_forms_at_the_same_priority(self):
        self.reads("a nyx b nyx c", f("nyx", f("nyx", a("a"), a("b")), a("c")), MANY)
        self.reads("a nxy b nyx c", f("nxy", a("a"), f("nyx", a("b"), a("c"))), MANY)
        self.reads("a nxy b nxx c", f("nxy", a("a"), f("nxx", a("b"), a("c"))), MANY)
        self.bad("a nxx b nxx c.", 8, MANY)
        self.bad("a nxx b nxy c.", 8, MANY)
        self.reads("a nxx b nyx c", f("nyx", f("nxx", a("a"), a("b")), a("c")), MANY)
        self.bad("a nyx b nxy c.", 8, MANY)
        self.reads("a nxy pfx b", f("nxy", a("a"), f("pfx", a("b"))), MANY)
        self.reads("a nyx pfx", f("nyx", a("a"), a("pfx")), MANY)
        self.bad("a nyx pfx b.", 10, MANY)
        self.reads("a = b low c", f("=", a("a"), f("low", a("b"), a("c"))), MANY)
        self.bad("a low b low c.", 8, MANY)

    def test_operators_as_atoms(self):
        self.reads("= = =", f("=", a("="), a("=")))
        self.reads("f(=)", f("f", a("=")))
        self.reads("f(=, + , -)", f("f", a("="), a("+"), a("-")))
        self.reads("+ + +", f("+", a("+"), a("+")))
        self.reads("* = mod", f("=", a("*"), a("mod")))
        self.bad("= =.", 2)
        self.bad("= = .", 4)
        self.bad("a = = b.", 6)

    def test_only_names_are_operators(self):
        self.bad("a '+' b.", 2)
        self.bad("'\\+' a.", 5)
        self.reads("a + '+'", f("+", a("a"), a("+")))

    def test_tables_without_operators(self):
        self.reads("f(a, [b|C], {d}, -1)", f("f", a("a"), items(a("b"), tail=v(0)), f("{}", a("d")), i(-1)), {})
        self.bad("a = b.", 2, {})
        self.bad("a , b.", 2, {})
        self.bad("(a , b).", 3, {})
        self.bad("\\+ a.", 3, {})
        self.reads("=(a, b)", f("=", a("a"), a("b")), {})

    def test_priority_999_of_arguments(self):
        table = with_operator(initial_table(), 999, "xfx", "ok")
        table = with_operator(table, 1000, "xfx", "no")
        self.reads("f(a ok b)", f("f", f("ok", a("a"), a("b"))), table)
        self.reads("[a ok b|c ok d]", items(f("ok", a("a"), a("b")), tail=f("ok", a("c"), a("d"))), table)
        self.bad("f(a no b).", 4, table)
        self.bad("[a no b].", 3, table)
        self.bad("[a|b no c].", 5, table)
        self.reads("{a no b}", f("{}", f("no", a("a"), a("b"))), table)


class Limits(Case):

    def test_60_calls_inside_one_another(self):
        for opening, closing, expected, at in (
                ("(", ")", a("a"), 60),
                ("f(", ")", chain("f", 59, a("a")), 120),
                ("'f g'(", ")", chain("f g", 59, a("a")), 360),
                ("f(b,", ")", (("f", "f", 2), ("f", "b", 0)) * 59 + a("a"), 59 * 4 + 2),
                ("[", "]", (("f", ".", 2),) * 59 + a("a") + EMPTY * 59, 60),
                ("[b,", "]", (("f", ".", 2), ("f", "b", 0), ("f", ".", 2)) * 59 + a("a") + EMPTY * 59, 59 * 3 + 1),
                ("[b|", "]", (("f", ".", 2), ("f", "b", 0)) * 59 + a("a"), 59 * 3 + 1),
                ("{", "}", chain("{}", 59, a("a")), 60),
                ("- ", "", chain("-", 59, a("a")), 120),
                ("\\+ ", "", chain("\\+", 59, a("a")), 180),
                ("b ^ ", "", (("f", "^", 2), ("f", "b", 0)) * 59 + a("a"), 240),
                ("b, ", "", (("f", ",", 2), ("f", "b", 0)) * 59 + a("a"), 180),
                ("b ; ", "", (("f", ";", 2), ("f", "b", 0)) * 59 + a("a"), 240)):
            self.reads(opening * 59 + "a" + closing * 59, expected)
            self.bad(opening * 60 + "a" + closing * 60 + ".", at)
            self.bad(opening * 60 + "|", at)
            self.bad(opening * 100, at)
            self.bad(" " + opening * 61 + "a" + closing * 61 + ".", at + 1)

    def test_the_61st_call_at_the_end_of_the_text(self):
        for opening in ("(", "f(", "[", "{", "b ^ ", "b, "):
            self.bad(opening * 60, len(opening) * 60)
            self.bad(opening * 60 + "  # c", len(opening) * 60 + 5)

    def test_prefix_operators_before_the_end(self):
        # The last of them is an atom, since nothing follows that begins an argument.
        self.bad("- " * 60, 120)
        self.bad("- " * 61 + ".", 120)
        self.reads("- " * 60, chain("-", 59, a("-")))

    def test_empty_brackets_begin_no_call(self):
        self.reads("[" * 60 + "]" * 60, (("f", ".", 2),) * 59 + EMPTY + EMPTY * 59)
        self.reads("{" * 60 + "}" * 60, chain("{}", 59, a("{}")))
        self.bad("[" * 61 + "]" * 61 + ".", 60)

    def test_operators_to_the_left_are_not_inside(self):
        for name in ("+", "*", "mod", "-"):
            self.reads("a" + f" {name} a" * 200, (("f", name, 2),) * 200 + a("a") + a("a") * 200)

    def test_the_right_argument_is_inside(self):
        self.reads("(" * 58 + "a - b" + ")" * 58, f("-", a("a"), a("b")))
        self.bad("(" * 59 + "a - b" + ")" * 59 + ".", 63)
        self.reads("(" * 58 + "a - b - c" + ")" * 58, f("-", f("-", a("a"), a("b")), a("c")))
        self.reads("(" * 58 + "- b" + ")" * 58, f("-", a("b")))
        self.bad("(" * 59 + "- b" + ")" * 59 + ".", 61)
        self.reads("(" * 59 + "-" + ")" * 59, a("-"))

    def test_calls_side_by_side_are_not_inside_one_another(self):
        part = "(" * 50 + "a" + ")" * 50
        self.reads(f"f({part}, {part}, [{part}, {part}])", f("f", a("a"), a("a"), items(a("a"), a("a"))))
        self.assertEqual(read_clauses((part + ". ") * 3, initial_table()), [a("a")] * 3)

    def test_the_61st_call_raises_before_anything_else(self):
        self.bad("(" * 60 + "]", 60)
        self.bad("a ^ " * 60 + ", b.", 240)
        self.bad("(" * 60 + "a" + ")" * 10 + "]", 60)
        self.bad("b ]" + "(" * 60, 2)

    def test_100_elements(self):
        self.reads("[" + "a," * 99 + "a]", items(*[a("a")] * 100))
        self.reads("[" + "a," * 99 + "a|b]", items(*[a("a")] * 100, tail=a("b")))
        self.reads("[" + "a," * 99 + "a|[b]]", items(*[a("a")] * 100, tail=items(a("b"))))
        self.bad("[" + "a," * 100 + "a].", 201)
        self.bad("[" + "a," * 100 + " a].", 202)
        self.bad("[" + "a," * 100 + "].", 201)
        self.bad("[" + "a," * 100 + "  ", 203)
        self.bad("[" + "a," * 200 + "a].", 201)
        self.bad("[" + "a," * 99 + "].", 199)
        self.bad("f(b, [" + "a," * 100 + "a]).", 206)
        many = ",".join(["[" + "a," * 99 + "a]"] * 4)
        self.reads(f"[{many}]", items(*[items(*[a("a")] * 100)] * 4))

    def test_1000_nodes(self):
        inner = (("f", "+", 2),) * 499 + i(1) * 500
        self.reads("f(1" + "+1" * 499 + ")", f("f", inner))
        self.bad("1" + "+1" * 500 + ".", 0)
        self.bad("  1" + "+1" * 500 + ".", 2)
        self.bad("#c\n(1" + "+1" * 500 + ").", 3)
        self.bad("- (1" + "+1" * 499 + ") - 1.", 0)
        self.reads("1" + "+1" * 499, (("f", "+", 2),) * 499 + i(1) * 500)

    def test_1001_nodes_in_a_later_clause(self):
        text = "a. b. " + "1" + "+1" * 500 + ". c."
        with self.assertRaises(BadText) as caught:
            read_clauses(text, initial_table())
        self.assertEqual(caught.exception.at, 6)

    def test_a_token_in_place_of_the_end_raises_first(self):
        text = "1" + "+1" * 500
        self.bad(text + " b.", len(text) + 1)
        self.bad(text + " ).", len(text) + 1)
        self.bad(text + " ", len(text) + 1)
        self.bad(text, len(text))


class Clauses(Case):

    def test_several_clauses(self):
        self.assertEqual(
            read_clauses("p(X, Y). q(Y, Z) :- r. # c\n3.\nX.", initial_table()),
            [f("p", v(0), v(1)), f(":-", f("q", v(0), v(1)), a("r")), i(3), v(0)])

    def test_no_clause(self):
        for text in ("", " ", "\n", "# a. b."):
            self.assertEqual(read_clauses(text, initial_table()), [])
            with self.assertRaises(BadText) as caught:
                read_term(text, initial_table())
            self.assertEqual(caught.exception.at, len(text))

    def test_variables_are_numbered_for_each_clause(self):
        self.assertEqual(
            read_clauses("f(X, _, Y). f(_, Y, X). g(Y).", initial_table()),
            [f("f", v(0), v(1), v(2)), f("f", v(0), v(1), v(2)), f("g", v(0))])

    def test_read_term_of_more_than_one_clause(self):
        for text, at in (("a. b.", 3), ("a. .", 3), ("a.\n\n ) ", 5), ("a. b", 3), ("a.#c\nb", 5)):
            with self.assertRaises(BadText) as caught:
                read_term(text, initial_table())
            self.assertEqual(caught.exception.at, at)
        self.assertEqual(read_term("a. # c", initial_table()), a("a"))
        self.assertEqual(read_term("  a.\n", initial_table()), a("a"))

    def test_the_second_clause(self):
        for text, at in (("a. b", 4), ("a. .", 3), ("a. b c. d e.", 5), ("a b. c d.", 2)):
            with self.assertRaises(BadText) as caught:
                read_clauses(text, initial_table())
            self.assertEqual(caught.exception.at, at)

    def test_tokens_that_cannot_be_formed_raise_before_everything_else(self):
        self.bad("a b. 1x.", 5)
        self.bad(") 'c", 2)
        self.bad("a. b c. \"", 8)
        self.bad("(" * 70 + "''", 70)
        self.bad("1" + "+1" * 500 + ". `", 1003)
        self.bad("a 1x 'b", 2)

    def test_results_may_be_changed(self):
        found = read_clauses("a. b.", initial_table())
        found.append("more")
        self.assertEqual(read_clauses("a. b.", initial_table()), [a("a"), a("b")])


if __name__ == "__main__":
    unittest.main()
