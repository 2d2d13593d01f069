"""Points 10 to 12, and hornbook/tokens.py."""

import unittest

from hornbook.errors import BadText
from hornbook.tokens import tokens

SYMBOLS = "+-*/\\^<>=~:.?@&$"


class Kinds(unittest.TestCase):

    def alone(self, text, kind, value):
        """The text is one token, whatever blanks are around it."""
        for before in ("", " ", "\n", "# c\n", "#\n#\n  "):
            for behind in ("", " ", "\n", "#", "# c"):
                with self.subTest((before, text, behind)):
                    found = tokens(before + text + behind)
                    self.assertEqual(found, [(kind, value, len(before), True)])
                    self.assertIs(type(found[0]), tuple)
                    self.assertIs(found[0][3], True)

    def test_no_tokens(self):
        for text in ("", " ", "\n", "#", "# a. 'b \" 1a", "  \n # c\n\n#d \n "):
            self.assertEqual(tokens(text), [])

    def test_words(self):
        for name in ("a", "z", "abc", "aB_9", "a_", "a1", "mod", "x" * 40, "a" + "Z9_" * 13):
            self.alone(name, "name", name)

    def test_symbol_names(self):
        for name in list(SYMBOLS.replace(".", "")) + [":-", "->", "=..", "..", "...", "\\==", ".=", "=.", SYMBOLS]:
            self.alone(name, "name", name)
        self.alone("+" * 40, "name", "+" * 40)
        self.alone("." * 40, "name", "." * 40)

    def test_single_names(self):
        for name in "!;,":
            self.alone(name, "name", name)

    def test_quoted(self):
        self.alone("'a'", "quoted", "a")
        self.alone("'A b'", "quoted", "A b")
        self.alone("' '", "quoted", " ")
        self.alone("'# no comment'", "quoted", "# no comment")
        self.alone("'\"()[]{}|'", "quoted", "\"()[]{}|")
        self.alone("'[]'", "quoted", "[]")
        self.alone("'.'", "quoted", ".")
        self.alone("'\\'", "quoted", "\\")
        self.alone("'" + "x" * 40 + "'", "quoted", "x" * 40)

    def test_quotes_in_quoted(self):
        self.alone("''''", "quoted", "'")
        self.alone("'a''b'", "quoted", "a'b")
        self.alone("'''a'", "quoted", "'a")
        self.alone("'a'''", "quoted", "a'")
        self.alone("''''''", "quoted", "''")
        self.alone("'" + "''" * 40 + "'", "quoted", "'" * 40)

    def test_variables(self):
        for name in ("A", "Z", "_", "__", "_0", "_a", "Abc", "X1_y", "X" * 40, "_" + "a" * 39):
            self.alone(name, "var", name)

    def test_integers(self):
        for text, value in (("0", 0), ("7", 7), ("007", 7), ("00", 0), ("1234567890", 1234567890)):
            self.alone(text, "int", value)
        self.alone("9" * 40, "int", 10 ** 40 - 1)
        self.alone("0" * 40, "int", 0)
        self.alone("0" * 39 + "5", "int", 5)

    def test_puncts(self):
        for letter in "()[]{}|":
            self.alone(letter, "punct", letter)

    def test_end(self):
        self.alone(".", "end", ".")


class Places(unittest.TestCase):

    def test_example_of_the_document(self):
        self.assertEqual(
            tokens("a:- B."),
            [("name", "a", 0, True), ("name", ":-", 1, False), ("var", "B", 4, True), ("end", ".", 5, False)])

    def test_each_kind_behind_something(self):
        for text, kind, value in (
                ("b", "name", "b"), (";", "name", ";"), ("'q r'", "quoted", "q r"), ("X", "var", "X"),
                ("_", "var", "_"), ("12", "int", 12), ("(", "punct", "("), ("|", "punct", "|"), ("+", "name", "+"),
                (".", "end", ".")):
            for before, spaced in (
                    ("", False), (" ", True), ("\n", True), ("#c\n", True), ("  ", True), (" #\n", True)):
                with self.subTest((before, text)):
                    found = tokens("(" + before + text)
                    self.assertEqual(found[0], ("punct", "(", 0, True))
                    self.assertEqual(found[1:], [(kind, value, 1 + len(before), spaced)])

    def test_runs_take_as_much_as_follows(self):
        self.assertEqual(
            tokens("a=:=b"), [("name", "a", 0, True), ("name", "=:=", 1, False), ("name", "b", 4, False)])
        self.assertEqual([token[1] for token in tokens("!!;;,,")], ["!", "!", ";", ";", ",", ","])
        self.assertEqual([token[1] for token in tokens("=,=;=!=")], ["=", ",", "=", ";", "=", "!", "="])
        self.assertEqual([token[1] for token in tokens("aB'c'D'e''f'1 2")], ["aB", "c", "D", "e'f", 1, 2])
        self.assertEqual([token[0] for token in tokens("a'b'")], ["name", "quoted"])
        self.assertEqual([token[1] for token in tokens("A+b-12*'x'")], ["A", "+", "b", "-", 12, "*", "x"])

    def test_a_comment_ends_a_token_and_ends_with_the_line(self):
        self.assertEqual(
            tokens("a#b\nc#d"), [("name", "a", 0, True), ("name", "c", 4, True)])
        self.assertEqual(tokens("+#+\n+"), [("name", "+", 0, True), ("name", "+", 4, True)])
        self.assertEqual(tokens("1#\n2"), [("int", 1, 0, True), ("int", 2, 3, True)])
        self.assertEqual(tokens("# it's \"\na"), [("name", "a", 9, True)])

    def test_periods(self):
        def kinds(text):
            return [(token[0], token[1]) for token in tokens(text)]

        for behind in ("", " ", "\n", "#", "#c\n"):
            self.assertEqual(kinds("a." + behind), [("name", "a"), ("end", ".")])
            self.assertEqual(kinds("a .." + behind), [("name", "a"), ("name", "..")])
            self.assertEqual(kinds("a=." + behind), [("name", "a"), ("name", "=.")])
            self.assertEqual(kinds("a.=" + behind), [("name", "a"), ("name", ".=")])
        for behind in ("b", "B", "1", "'q'", "(", ")", "[", "]", "{", "}", "|", "!", ";", ",", "_"):
            self.assertEqual(kinds("a." + behind)[1], ("name", "."))
        self.assertEqual(kinds(". . a.b ."), [
            ("end", "."), ("end", "."), ("name", "a"), ("name", "."), ("name", "b"), ("end", ".")])
        self.assertEqual(kinds("1.2."), [("int", 1), ("name", "."), ("int", 2), ("end", ".")])
        self.assertEqual(kinds("'a'."), [("quoted", "a"), ("end", ".")])
        self.assertEqual(kinds("X.\nY."), [("var", "X"), ("end", "."), ("var", "Y"), ("end", ".")])
        self.assertEqual(tokens("a.\n.")[2], ("end", ".", 3, True))

    def test_the_result_may_be_changed(self):
        tokens("a").append("more")
        self.assertEqual(len(tokens("a")), 1)


class Bad(unittest.TestCase):

    def bad(self, text, at):
        for before in ("", "a ", "a. # c\n", "(", "'b'  "):
            for behind in ("", " ", "\nb.", " 'c"):
                with self.subTest((before, text, behind)):
                    with self.assertRaises(BadText) as caught:
                        tokens(before + text + behind)
                    self.assertEqual(caught.exception.at, len(before) + at)

    def test_too_long_names(self):
        self.bad("x" * 41, 0)
        self.bad("a" + "1" * 40, 0)
        self.bad("+" * 41, 0)
        self.bad("." * 41, 0)
        self.bad("X" * 41, 0)
        self.bad("_" * 41, 0)
        self.bad("'" + "x" * 41 + "'", 0)
        self.bad("'" + "''" * 41 + "'", 0)
        self.bad("b " + "x" * 50, 2)

    def test_integers(self):
        self.bad("1" * 41, 0)
        self.bad("0" * 41, 0)
        for letter in "azAZ_":
            self.bad("1" + letter, 0)
            self.bad("123" + letter, 0)
            self.bad("9" * 40 + letter, 0)
        self.assertEqual([token[1] for token in tokens("1+1(1'a'")], [1, "+", 1, "(", 1, "a"])

    def test_quotes(self):
        self.bad("''", 0)
        self.bad("b ''", 2)
        self.bad("'a\nb'", 0)
        self.bad("'\n'", 0)
        self.bad("'a''\n'", 0)
        for text in ("'", "'a", "'''", "'a''", "'a b. c"):
            with self.assertRaises(BadText) as caught:
                tokens("ab " + text)
            self.assertEqual(caught.exception.at, 3)

    def test_an_empty_name_is_bad_in_front_of_anything(self):
        for text in ("'' a", "''(", "''.", "''\n'a'"):
            with self.assertRaises(BadText) as caught:
                tokens(text)
            self.assertEqual(caught.exception.at, 0)

    def test_other_characters(self):
        self.bad("\"", 0)
        self.bad("`", 0)
        self.bad("a\"", 1)
        self.bad("+`", 1)

    def test_the_first_one_counts(self):
        for text, at in (("1a 2b", 0), ("a 'b\n1c", 2), ("\" 'a", 0), ("a + 3x '", 4), ("X \" 1a", 2)):
            with self.assertRaises(BadText) as caught:
                tokens(text)
            self.assertEqual(caught.exception.at, at)

    def test_not_in_comments_and_quotes(self):
        self.assertEqual(len(tokens("# \" ` 1a '\n'\" ` 1a'")), 1)


if __name__ == "__main__":
    unittest.main()
