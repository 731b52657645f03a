"""What a text must be, told by the grammar of section 17 itself and not by the parser.

`expected_problem(text)` splits the text with a regular expression and recognizes it
with Earley's algorithm, which knows of any grammar which tokens can stand where.
"""

import re

GRAMMAR = '''
program    = { record } { function }
record     = "record" Name "{" field { "," field } "}"
field      = name ":" kind
function   = "fn" name "(" [ field { "," field } ] ")" "->" kind [ "from" name { "," name } ] block
block      = "{" { statement } "}"
statement  = "let" name "=" expression ";" | "do" expression ";" | "print" expression ";"
           | "return" expression ";" | "if" expression block "else" block
           | "while" expression block | place "=" expression ";"
kind       = "int" | "bool" | "unit" | Name | "box" kind | "maybe" kind | "&" [ "mut" ] kind
           | "(" kind "," kind { "," kind } ")"
place      = name { "." number | "." name | "?" | "^" }
expression = number | "-" number | "true" | "false" | "unit" | "none" "[" kind "]"
           | "some" expression | "box" expression | "unbox" expression | "not" expression
           | "&" [ "mut" ] place | "swap" place "with" expression
           | Name "(" [ expression { "," expression } ] ")"
           | name "(" [ expression { "," expression } ] ")"
           | place [ "is" "some" ]
           | "(" expression sign expression ")" | "(" expression "," expression { "," expression } ")"
sign       = "+" | "-" | "*" | "<" | "==" | "and" | "or"
'''

TOKEN = re.compile(r"[A-Za-z][A-Za-z0-9_]*|[0-9]+|->|==|[^ \n]")
RESERVED = (
    "and bool box do else false fn from if int is let maybe mut none not or print record "
    "return some swap true unbox unit while with"
).split()
SIGNS = "-> == { } ( ) [ ] , ; : . ? ^ & + - * < =".split()


def label(word):
    """The terminal of the grammar for a token: its text, or name, Name, number, wrong."""
    if word in RESERVED or word in SIGNS:
        return word
    if re.fullmatch("[a-z][a-z0-9_]{0,19}", word):
        return "name"
    if re.fullmatch("[A-Z][A-Za-z0-9]{0,19}", word):
        return "Name"
    if re.fullmatch("0|[1-9][0-9]{0,9}", word):
        return "number"
    return "wrong"


def place_behind(text, length):
    """Line and column of the character behind the first so many characters."""
    before = text[:length].split("\n")
    return len(before), len(before[-1]) + 1


class Rules:
    """The grammar without repetitions and options, which get rules of their own."""

    def __init__(self, text):
        self.alternatives = {}
        found = re.findall(r'"[^"]*"|\w+|[^\s\w]', text)
        starts = [at for at in range(len(found) - 1) if found[at + 1] == "="]
        for start, end in zip(starts, starts[1:] + [len(found)]):
            self.words = found[start + 2:end]
            self.alternatives[found[start]] = self.choices("")
        self.nullable = set()
        before = -1
        while before < len(self.nullable):
            before = len(self.nullable)
            for head, rows in self.alternatives.items():
                if any(all(symbol in self.nullable for symbol in row) for row in rows):
                    self.nullable.add(head)

    def choices(self, closing):
        rows = [[]]
        while self.words and self.words[0] != closing:
            word = self.words.pop(0)
            if word == "|":
                rows.append([])
            elif word in ("{", "["):
                rows[-1].append(self.added(word))
            else:
                rows[-1].append(word)
        if closing:
            self.words.pop(0)
        return [tuple(row) for row in rows]

    def added(self, opening):
        head = f"#{len(self.alternatives)}"
        self.alternatives[head] = []
        rows = self.choices("}" if opening == "{" else "]")
        if opening == "{":
            rows = [(head,) + row for row in rows]
        self.alternatives[head] = [()] + rows
        return head


RULES = Rules(GRAMMAR)


def first_wrong(labels):
    """The index of the first label that cannot stand where it stands; the number of
    labels if they end too early; None if they are a program."""
    items = closed([("program", row, 0, 0) for row in RULES.alternatives["program"]], [], 0)
    columns = [items]
    for at, found in enumerate(labels):
        # Quotes stay around the grammar's fixed tokens: `record` is also the name of a rule.
        terminal = found if found in ("name", "Name", "number") else f'"{found}"'
        kernel = [
            (head, row, dot + 1, origin) for head, row, dot, origin in columns[-1]
            if dot < len(row) and row[dot] == terminal
        ]
        if not kernel:
            return at
        columns.append(closed(kernel, columns, at + 1))
    whole = any(
        head == "program" and dot == len(row) and origin == 0 for head, row, dot, origin in columns[-1]
    )
    return None if whole else len(labels)


def closed(kernel, columns, here):
    """All items of a column of Earley's chart."""
    items = dict.fromkeys(kernel)
    waiting = list(kernel)
    while waiting:
        head, row, dot, origin = waiting.pop()
        added = []
        if dot == len(row):
            earlier = list(items) if origin == here else columns[origin]
            added = [
                (other, line, place + 1, start) for other, line, place, start in earlier
                if place < len(line) and line[place] == head
            ]
        elif row[dot] in RULES.alternatives:
            added = [(row[dot], line, 0, here) for line in RULES.alternatives[row[dot]]]
            if row[dot] in RULES.nullable:
                added.append((head, row, dot + 1, origin))
        for item in added:
            if item not in items:
                items[item] = None
                waiting.append(item)
    return items


def out_of_range(labels, words):
    """The index of the first token of the first integer of an expression out of range."""
    ends = ("name", "number", "true", "false", "unit", "]", ")", "?", "^")
    for at, found in enumerate(labels):
        before = ["", "", ""] + labels[:at]
        if found != "number" or before[-1] == ".":
            continue
        negative = before[-1] == "-" and before[-2] not in ends and before[-3:-1] != ["is", "some"]
        number = -int(words[at]) if negative else int(words[at])
        if not -2 ** 31 <= number < 2 ** 31:
            return at - 1 if negative else at
    return None


def expected_problem(text):
    """Line and column of the problem of a text, or None if it is a program."""
    found = list(TOKEN.finditer(text))
    words = [match.group() for match in found]
    labels = [label(word) for word in words]
    wrong = first_wrong(labels)
    beyond = out_of_range(labels[:wrong], words)
    if beyond is not None:
        wrong = beyond
    if wrong is None:
        return None
    return place_behind(text, found[wrong].start() if wrong < len(found) else len(text))
