"""Tokens of a text."""

from hornbook.errors import BadText
from hornbook.terms import is_name

SMALL_LETTERS = "abcdefghijklmnopqrstuvwxyz"
VARIABLE_STARTS = "ABCDEFGHIJKLMNOPQRSTUVWXYZ_"
DIGITS = "0123456789"
WORD_LETTERS = "abcdefghijklmnopqrstuvwxyzABCDEFGHIJKLMNOPQRSTUVWXYZ0123456789_"
SYMBOL_LETTERS = "+-*/\\^<>=~:.?@&$"
SINGLE_LETTERS = "!;,"
PUNCTUATION = "()[]{}|"
BLANKS = " \n"
COMMENT = "#"
MOST_DIGITS = 40


def run_end(text, start, letters):
    """Return the index behind the letters that follow one another from start on."""
    at = start
    while at < len(text) and text[at] in letters:
        at += 1
    return at


def skip_blanks(text, start):
    """Return the index behind the spaces, newlines and comments from start on."""
    at = run_end(text, start, BLANKS)
    while at < len(text) and text[at] == COMMENT:
        line_end = text.find("\n", at)
        at = len(text) if line_end < 0 else run_end(text, line_end, BLANKS)
    return at


def word_token(kind, text, start, letters):
    """Return the kind, the value and the end of a name or variable of these letters."""
    end = run_end(text, start, letters)
    if not is_name(text[start:end]):
        raise BadText(start)
    return kind, text[start:end], end


def symbol_token(text, start):
    """Return the kind, the value and the end of a run of symbol characters."""
    end = run_end(text, start, SYMBOL_LETTERS)
    if text[start:end] == "." and (end == len(text) or text[end] in BLANKS or text[end] == COMMENT):
        return "end", ".", end
    return word_token("name", text, start, SYMBOL_LETTERS)


def quoted_token(text, start):
    """Return the kind, the value and the end of a quoted name."""
    end = start + 1
    name = ""
    while text[end:end + 1] != "'" or text[end:end + 2] == "''":
        if end >= len(text) or text[end] == "\n":
            raise BadText(start)
        name += text[end]
        end += 2 if text[end] == "'" else 1
    if not is_name(name):
        raise BadText(start)
    return "quoted", name, end + 1


def integer_token(text, start):
    """Return the kind, the value and the end of an integer."""
    end = run_end(text, start, DIGITS)
    if end - start > MOST_DIGITS or (end < len(text) and text[end] in WORD_LETTERS):
        raise BadText(start)
    return "int", int(text[start:end]), end


def token_at(text, start):
    """Return the kind, the value and the end of the token that begins at an index."""
    letter = text[start]
    if letter in SMALL_LETTERS:
        return word_token("name", text, start, WORD_LETTERS)
    if letter in VARIABLE_STARTS:
        return word_token("var", text, start, WORD_LETTERS)
    if letter in DIGITS:
        return integer_token(text, start)
    if letter in SYMBOL_LETTERS:
        return symbol_token(text, start)
    if letter in SINGLE_LETTERS:
        return "name", letter, start + 1
    if letter in PUNCTUATION:
        return "punct", letter, start + 1
    if letter == "'":
        return quoted_token(text, start)
    raise BadText(start)


def tokens(text):
    """Return the list of the tokens of a text, each as (kind, value, index, spaced)."""
    found = []
    end = 0
    at = skip_blanks(text, 0)
    while at < len(text):
        spaced = at > end or len(found) == 0
        kind, value, end = token_at(text, at)
        found.append((kind, value, at, spaced))
        at = skip_blanks(text, end)
    return found
