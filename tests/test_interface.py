"""The interface: names, arguments and the files in which they are defined."""

import importlib
import inspect
import unittest

FUNCTIONS = {
    "hornbook.terms": {
        "variable": "number", "integer": "value", "atom": "name", "compound": "name *parts",
        "is_term": "value", "parts": "term", "list_term": "items tail:None", "list_items": "term",
        "variables": "term", "renumber": "term first=0", "are_variants": "left right",
    },
    "hornbook.order": {"compare": "left right", "sort_terms": "items unique:False"},
    "hornbook.unify": {
        "apply": "substitution term", "compose": "first second", "unify": "left right",
        "matches": "general special",
    },
    "hornbook.tokens": {"tokens": "text"},
    "hornbook.operators": {"initial_table": "", "with_operator": "table priority form name"},
    "hornbook.reader": {"read_term": "text table", "read_clauses": "text table"},
    "hornbook.writer": {"write": "term table"},
    "hornbook.program": {
        "is_control": "name arity", "is_built_in": "name arity", "goal_form": "term",
        "head_and_body": "clause", "read_program": "text",
    },
    "hornbook.arithmetic": {"evaluate": "term"},
    "hornbook.definite": {"head_and_goals": "clause", "resolve": "query goals pick clause"},
    "hornbook.derivations": {
        "derive": "program query steps", "accepts": "program derivation", "follows": "program derivation",
    },
    "hornbook.trees": {
        "search_tree": "program query picks", "accepts_tree": "program query tree",
        "tree_answers": "program query tree",
    },
    "hornbook.instructions": {"reads": "instruction", "writes": "instruction", "successors": "code at"},
    "hornbook.compiler": {"compile_clause": "head body", "compile_goal": "goal"},
    "hornbook.decompiler": {"decompile": "code name arity"},
    "hornbook.tables": {
        "table_order": "left right", "tables": "program query", "table_answers": "program query",
        "closed": "program listed", "reason": "program query call answer",
    },
    "hornbook.domains": {
        "domain": "values", "values": "given", "meet": "first second", "without": "given value", "is_domain": "value",
    },
    "hornbook.matching": {"distinct_values": "given"},
    "hornbook.narrowing": {
        "allows": "domains constraint variable value", "stable": "domains constraints", "narrow": "domains constraints",
    },
    "hornbook.posing": {"pose": "constraints"},
    "hornbook.solving": {
        "satisfies": "domains constraints chosen", "solutions": "domains constraints most:None",
    },
    "hornbook.primitives": {"perform": "goal first program"},
    "hornbook.indexing": {"key": "term", "candidates": "clauses arguments plan", "best_plan": "clauses"},
    "hornbook.collector": {"reachable": "cells roots", "slide": "cells roots"},
    "hornbook.updates": {"play": "database updates"},
}
NUMBERS = {
    ("hornbook.unify", "MOST_NODES"): 200, ("hornbook.derivations", "MOST_DEPTH"): 60,
    ("hornbook.tables", "MOST_CALLS"): 40, ("hornbook.tables", "MOST_ANSWERS"): 200,
    ("hornbook.trees", "MOST_TREE"): 400, ("hornbook.instructions", "MOST_REGISTERS"): 400,
}
METHODS = {
    ("hornbook.program", "Program"): {
        "__init__": "self clauses dynamic", "clauses": "self", "predicate": "self name arity",
        "with_clause": "self clause first:False", "without": "self name arity position",
        "is_dynamic": "self name arity",
    },
    ("hornbook.cells", "Heap"): {
        "__init__": "self", "store": "self term places", "load": "self cell", "unify": "self left right",
        "size": "self", "trail_size": "self", "cut": "self size trail_size", "protect": "self size", "cells": "self",
    },
    ("hornbook.search", "Search"): {
        "__init__": "self program query", "step": "self", "run": "self steps", "ended": "self", "program": "self",
        "depth": "self",
    },
    ("hornbook.machine", "Machine"): {
        "__init__": "self program query plan:(0,) collect_at:()", "step": "self", "run": "self instructions",
        "ended": "self", "program": "self", "at_call": "self", "view": "self", "sizes": "self",
    },
    ("hornbook.indexing", "Index"): {
        "__init__": "self clauses argument", "find": "self term", "add_first": "self clause", "add_last": "self clause",
        "remove_at": "self position",
    },
    ("hornbook.database", "Database"): {
        "__init__": "self", "add": "self clause first:False", "erase": "self number",
        "clauses": "self name arity at:None", "predicates": "self", "open_call": "self name arity erasing:False",
        "next_clause": "self call", "close_call": "self call", "sweep": "self", "stored": "self", "twin": "self",
    },
}


def shape(function):
    """The parameters: `x=1` for a default value, `x:1` for one by keyword only, `*x`."""
    words = []
    for parameter in inspect.signature(function).parameters.values():
        if parameter.kind == parameter.VAR_POSITIONAL:
            words.append("*" + parameter.name)
        elif parameter.kind == parameter.KEYWORD_ONLY:
            words.append(f"{parameter.name}:{parameter.default!r}")
        elif parameter.default is not parameter.empty:
            words.append(f"{parameter.name}={parameter.default!r}")
        else:
            words.append(parameter.name)
    return " ".join(words)


class Interface(unittest.TestCase):

    def test_functions(self):
        for module_name, functions in FUNCTIONS.items():
            module = importlib.import_module(module_name)
            for name, expected in functions.items():
                with self.subTest(f"{module_name}.{name}"):
                    function = getattr(module, name)
                    self.assertTrue(inspect.isfunction(function))
                    self.assertEqual(shape(function), expected)
                    self.assertEqual(function.__module__, module_name)

    def test_methods_stand_in_the_class_itself(self):
        for (module_name, class_name), methods in METHODS.items():
            found = getattr(importlib.import_module(module_name), class_name)
            self.assertEqual(found.__module__, module_name)
            for name, expected in methods.items():
                with self.subTest(f"{class_name}.{name}"):
                    self.assertIn(name, vars(found))
                    self.assertEqual(shape(vars(found)[name]), expected)

    def test_field_of_a_database(self):
        database = importlib.import_module("hornbook.database").Database()
        self.assertEqual(vars(database)["generation"], 0)

    def test_numbers(self):
        for (module_name, name), expected in NUMBERS.items():
            self.assertEqual(getattr(importlib.import_module(module_name), name), expected)


if __name__ == "__main__":
    unittest.main()
