"""The tokens of a text: words, numbers and signs, each with its line and column.

A token is a tuple (label, text, line, column). The label of a reserved word or
a sign is its text; the other labels are "name", "Name" (a record name), "number",
"wrong" (what is an error wherever it stands) and "end" (behind the last character).
"""

SMALL_LETTERS = "abcdefghijklmnopqrstuvwxyz"
CAPITALS = "ABCDEFGHIJKLMNOPQRSTUVWXYZ"
DIGITS = "0123456789"
RESERVED_WORDS = (
    "and", "bool", "box", "do", "else", "false", "fn", "from", "if", "int", "is", "let", "maybe", "mut",
    "none", "not", "or", "print", "record", "return", "some", "swap", "true", "unbox", "unit", "while", "with",
)
SIGNS = (
    "->", "==", "{", "}", "(", ")", "[", "]", ",", ";", ":", ".", "?", "^", "&", "+", "-", "*", "<", "=",
)
LONGEST_NAME = 20
LONGEST_NUMBER = 10


def consists_of(word, characters):
    """True if a word has no other characters than these."""
    return all([character in characters for character in word])


def is_name(word):
    """True if a word can name a variable, function, parameter or field."""
    return (word[0] in SMALL_LETTERS and consists_of(word, SMALL_LETTERS + DIGITS + "_")
            and len(word) <= LONGEST_NAME and word not in RESERVED_WORDS)


def is_record_name(word):
    """True if a word can name a record."""
    return (word[0] in CAPITALS and consists_of(word, SMALL_LETTERS + CAPITALS + DIGITS)
            and len(word) <= LONGEST_NAME)


def is_number(word):
    """True if a word is a number without a leading zero and not too long."""
    return consists_of(word, DIGITS) and (word == "0" or word[0] != "0") and len(word) <= LONGEST_NUMBER


def label_of(word):
    """The label of the token with this text."""
    if word in RESERVED_WORDS or word in SIGNS:
        return word
    if is_name(word):
        return "name"
    if is_record_name(word):
        return "Name"
    if is_number(word):
        return "number"
    return "wrong"


def run_end(text, at, characters):
    """The index behind the longest row of these characters that begins at an index."""
    while at < len(text) and text[at] in characters:
        at += 1
    return at


def token_end(text, at):
    """The index behind the longest token that begins at an index."""
    if text[at] in SMALL_LETTERS + CAPITALS:
        return run_end(text, at, SMALL_LETTERS + CAPITALS + DIGITS + "_")
    if text[at] in DIGITS:
        return run_end(text, at, DIGITS)
    if text[at:at + 2] in ("->", "=="):
        return at + 2
    return at + 1


def split_text(text):
    """The list of a text's tokens, the end of the text included."""
    tokens = []
    line, line_start, at = 1, 0, 0
    while at < len(text):
        if text[at] == "\n":
            line, line_start, at = line + 1, at + 1, at + 1
        elif text[at] == " ":
            at += 1
        else:
            word = text[at:token_end(text, at)]
            tokens.append((label_of(word), word, line, at - line_start + 1))
            at += len(word)
    tokens.append(("end", "", line, at - line_start + 1))
    return tokens
