"""How a text must be laid out, told by its tokens and not by its tree (sections 19 and 20)."""

from tests.grammar import label

ENDS = ("name", "number", "true", "false", "unit", "]", ")", "?", "^")
NONE_BEFORE = (",", ";", ":", ".", "?", "^", ")", "]", "[")
NONE_BEHIND = (".", "(", "[", "&")


def merged(tokens):
    """The tokens with `&mut` and negative integers as one token each."""
    found = []
    for token in tokens:
        if token == "mut" and found[-1] == "&":
            found[-1] = "&mut"
        elif label(token) == "number" and found and found[-1] == "-" and is_sign_of_integer(found[:-1]):
            found[-1] = "-" + token
        else:
            found.append(token)
    return found


def is_sign_of_integer(before):
    return label(before[-1]) not in ENDS and before[-2:] != ["is", "some"]


def has_blank(before, token):
    """True if a blank stands between two tokens of a line."""
    if token in NONE_BEFORE or before in NONE_BEHIND:
        return False
    return token != "(" or label(before) not in ("name", "Name")


def split_lines(tokens):
    """The tokens of each line, with the number of blocks around the line."""
    lines, line, depth = [], [], 0
    for at, token in enumerate(tokens):
        in_record = line[:1] == ["record"]
        depth -= token == "}" and not in_record
        line.append(token)
        ends = token == "}" if in_record else token in (";", "{", "}") and tokens[at + 1:at + 2] != ["else"]
        if ends:
            lines.append((depth, line))
            depth += token == "{"
            line = []
    return lines


def laid_out(tokens):
    """The text with these tokens."""
    text = ""
    for depth, line in split_lines(merged(tokens)):
        row = "    " * depth + line[0]
        for before, token in zip(line, line[1:]):
            row += " " + token if has_blank(before, token) else token
        text += row + "\n"
    return text
