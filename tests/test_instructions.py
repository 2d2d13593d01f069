"""Point 51, and hornbook/instructions.py."""

import unittest

from hornbook.instructions import MOST_REGISTERS, reads, successors, writes

X, Y, Z = ("x", 9), ("y", 0), ("x", 3)
ATOM = ("f", "a", 0)
# Each instruction with what it reads and what it writes.
EFFECTS = [
    (("get_variable", X, 2), [("x", 2)], [X]),
    (("get_variable", Y, 0), [("x", 0)], [Y]),
    (("get_variable", Z, 3), [Z], [Z]),
    (("get_value", X, 2), [X, ("x", 2)], []),
    (("get_value", Y, 7), [Y, ("x", 7)], []),
    (("get_value", Z, 3), [Z], []),
    (("get_constant", ATOM, 4), [("x", 4)], []),
    (("get_constant", -7, 0), [("x", 0)], []),
    (("get_structure", "f", 3, 5), [("x", 5)], []),
    (("get_structure", "f", 8, 0), [("x", 0)], []),
    (("unify_variable", X), [], [X]),
    (("unify_variable", Y), [], [Y]),
    (("unify_value", X), [X], []),
    (("unify_value", Y), [Y], []),
    (("unify_constant", ATOM), [], []),
    (("unify_constant", 12), [], []),
    (("put_variable", X, 2), [], [X, ("x", 2)]),
    (("put_variable", Y, 2), [], [Y, ("x", 2)]),
    (("put_variable", Z, 3), [], [Z]),
    (("put_value", X, 2), [X], [("x", 2)]),
    (("put_value", Y, 0), [Y], [("x", 0)]),
    (("put_value", Z, 3), [Z], [Z]),
    (("put_constant", ATOM, 1), [], [("x", 1)]),
    (("put_constant", 0, 6), [], [("x", 6)]),
    (("put_structure", "f", 2, X), [], [X]),
    (("put_structure", "f", 2, Y), [], [Y]),
    (("set_variable", X), [], [X]),
    (("set_variable", Y), [], [Y]),
    (("set_value", X), [X], []),
    (("set_value", Y), [Y], []),
    (("set_constant", ATOM), [], []),
    (("set_constant", 3), [], []),
    (("allocate", 0), [], []),
    (("allocate", 5), [], []),
    (("deallocate",), [], []),
    (("proceed",), [], []),
    (("mark", X), [], [X]),
    (("mark", Y), [], [Y]),
    (("commit", X), [X], []),
    (("commit", Y), [Y], []),
    (("cut",), [], []),
    (("try_else", 3), [], []),
    (("jump", 3), [], []),
    (("fail",), [], []),
]
GO_ON = sorted({effect[0][0] for effect in EFFECTS} - {"proceed", "fail", "try_else", "jump"} | {"call"})
FILLER = ("cut",)


def instruction_of(word):
    """An instruction with this word."""
    if word == "call":
        return ("call", "p", 2, 3)
    return next(effect[0] for effect in EFFECTS if effect[0][0] == word)


class Effects(unittest.TestCase):

    def test_reads_and_writes(self):
        for instruction, read, written in EFFECTS:
            with self.subTest(instruction):
                self.assertEqual(reads(instruction), read)
                self.assertEqual(writes(instruction), written)
                self.assertIs(type(reads(instruction)), list)
                self.assertIs(type(writes(instruction)), list)

    def test_each_word_is_there(self):
        self.assertEqual(len({effect[0][0] for effect in EFFECTS} | {"call", "execute"}), 25)

    def test_calls_of_each_arity(self):
        for arity in range(9):
            expected = [("x", number) for number in range(arity)]
            for instruction in (("call", "p", arity, 7), ("call", "p", arity, 0), ("execute", "p", arity)):
                self.assertEqual(reads(instruction), expected)
                self.assertEqual(writes(instruction), [])

    def test_results_are_apart(self):
        for instruction, read, written in EFFECTS:
            reads(instruction).append("more")
            writes(instruction).append("more")
            self.assertEqual((reads(instruction), writes(instruction)), (read, written))

    def test_most_registers(self):
        self.assertEqual(MOST_REGISTERS, 400)


class Successors(unittest.TestCase):

    def check(self, code, at, expected):
        with self.subTest(code=code, at=at):
            found = successors(tuple(code), at)
            self.assertEqual(found, expected)
            self.assertIs(type(found), list)

    def test_instructions_that_go_on(self):
        for word in GO_ON:
            self.check([instruction_of(word), FILLER], 0, [1])
            self.check([FILLER, instruction_of(word), FILLER, FILLER], 1, [2])
            self.check([FILLER, FILLER, instruction_of(word), ("proceed",)], 2, [3])

    def test_no_label_behind_the_last_instruction(self):
        for word in GO_ON:
            self.check([instruction_of(word)], 0, [])
            self.check([FILLER, FILLER, instruction_of(word)], 2, [])
        self.check([FILLER, ("try_else", 0)], 1, [0])

    def test_instructions_that_end(self):
        for instruction in (("execute", "p", 2), ("execute", "q", 0), ("proceed",), ("fail",)):
            self.check([instruction, FILLER], 0, [])
            self.check([instruction], 0, [])
            self.check([FILLER, FILLER, instruction], 2, [])

    def test_jump(self):
        code = [FILLER] * 6
        for at in range(6):
            for label in range(6):
                self.check(code[:at] + [("jump", label)] + code[at + 1:], at, [label])

    def test_try_else(self):
        code = [FILLER] * 6
        for at in range(5):
            for label in range(6):
                expected = [at + 1] if label == at + 1 else sorted([label, at + 1])
                self.check(code[:at] + [("try_else", label)] + code[at + 1:], at, expected)

    def test_results_are_apart(self):
        code = (("try_else", 1), ("proceed",))
        successors(code, 0).append(7)
        self.assertEqual(successors(code, 0), [1])


if __name__ == "__main__":
    unittest.main()
