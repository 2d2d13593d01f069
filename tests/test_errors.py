"""Points 1 and 2: the error classes."""

import unittest

from helper import a, chain, f, facts, read, v
from hornbook import errors
from hornbook.database import Database
from hornbook.definite import resolve
from hornbook.derivations import follows
from hornbook.domains import domain
from hornbook.operators import initial_table, with_operator
from hornbook.primitives import perform
from hornbook.program import Program, head_and_body, read_program
from hornbook.reader import read_term
from hornbook.solving import solutions
from hornbook.tables import tables
from hornbook.terms import integer, variable
from hornbook.tokens import tokens
from hornbook.trees import tree_answers
from hornbook.unify import unify

BASES = {
    "HornbookError": ValueError,
    "TooLarge": errors.HornbookError,
    "BadTerm": errors.HornbookError,
    "BadText": errors.HornbookError,
    "BadOperator": errors.HornbookError,
    "BadClause": errors.HornbookError,
    "NotDefinite": errors.HornbookError,
    "NotAccepted": errors.HornbookError,
    "Forgotten": errors.HornbookError,
    "Closed": errors.HornbookError,
    "TablesFull": errors.TooLarge,
    "TooMany": errors.TooLarge,
    "BadProblem": errors.HornbookError,
}

WIDE = f("f", v(0), v(0), chain("s", 99, v(2)))
# Calls that raise an error of each class.
CALLS = {
    "TooLarge": [
        (unify, f("f", v(1), v(1), v(1)), WIDE),
        (resolve, f("p", v(0), v(0)), [f("q", v(0))], 0, f("q", chain("s", 120, v(0)))),
    ],
    "BadTerm": [(variable, -1), (integer, 10 ** 40)],
    "BadText": [(tokens, "p('"), (read_term, "p q .", initial_table())],
    "BadOperator": [(with_operator, initial_table(), 1201, "xfx", "a"), (read_program, ":- op(700, xfz, a).")],
    "BadClause": [(head_and_body, v(0)), (Program, facts(201), []), (Database().add, a("!"))],
    "NotDefinite": [(tables, [], v(0)), (tree_answers, [a("!")], a("p"), None)],
    "NotAccepted": [(follows, [], (a("p"), 0, ())), (tree_answers, [], a("p"), None)],
    "Forgotten": [(lambda: Database().clauses("p", 0, at=1),), (lambda: Database().clauses("p", 0, at=-1),)],
    "Closed": [(Database().next_clause, 0), (Database().close_call, -1)],
    "TablesFull": [(tables, [read("n(s(X)) :- n(X)"), a("n")], f("n", chain("s", 60, a("z"))))],
    "TooMany": [(perform, read("solve([X, Y], [X in 1 .. 50, Y in 1 .. 5])"), 2, Program([], []))],
    "BadProblem": [(domain, [51]), (solutions, [((1, 2),)], [("le", ((0, 0),), 1)])],
}


class Errors(unittest.TestCase):

    def test_bases(self):
        for name, base in BASES.items():
            with self.subTest(name):
                self.assertEqual(getattr(errors, name).__bases__, (base,))

    def test_defined_in_their_file(self):
        for name in BASES:
            with self.subTest(name):
                self.assertEqual(getattr(errors, name).__module__, "hornbook.errors")

    def test_any_other_error_class_derives_from_the_base_class_alone(self):
        for name, value in vars(errors).items():
            if isinstance(value, type) and issubclass(value, Exception) and name not in BASES:
                self.assertEqual(value.__bases__, (errors.HornbookError,))

    def test_made_with_a_text(self):
        for name in BASES:
            if name != "BadText":
                with self.subTest(name):
                    error = getattr(errors, name)("told")
                    self.assertIsInstance(error, errors.HornbookError)
                    self.assertIsInstance(error, ValueError)

    def test_an_error_of_each_class(self):
        self.assertEqual(set(CALLS) | {"HornbookError"}, set(BASES))
        for name, calls in CALLS.items():
            for function, *arguments in calls:
                with self.subTest(name), self.assertRaises(errors.HornbookError) as caught:
                    function(*arguments)
                error = caught.exception
                self.assertIsInstance(error, ValueError)
                classes = {other for other in BASES if isinstance(error, getattr(errors, other))}
                expected = {name, "HornbookError"}
                if name in ("TablesFull", "TooMany"):
                    expected.add("TooLarge")
                self.assertEqual(classes, expected)

    def test_bad_text_has_the_index(self):
        for at in (0, 7, 123456):
            error = errors.BadText(at)
            self.assertEqual(error.at, at)
            self.assertIsInstance(error.at, int)

    def test_each_error_can_be_caught_by_the_base_class(self):
        for name in BASES:
            with self.assertRaises(errors.HornbookError):
                raise getattr(errors, name)(3 if name == "BadText" else "told")


if __name__ == "__main__":
    unittest.main()
