"""Passes by the document's own words [9.1], done on the lines of texts: no statement is looked at as the package does."""

from tripmeans.errors import BadText
from tripmeans.texts import program_text, read_program

CLOSING = ("else", "end")
SIGNS = {"+": "plus", "-": "minus", "*": "times"}


def told(line):
    """A line as (word, name, kind words, one, other), or ("if", small, large), or ("else",) or ("end",)."""
    words = line.split(" ")
    if words[0] == "if":
        return ("if", words[1], words[3])
    if words[0] in CLOSING:
        return (words[0],)
    name, word, k, _, one, sign, other = words
    if one in ("least", "greatest"):
        return (one, name, (word, k), sign, other)
    return (SIGNS[sign], name, (word, k), one, other)


def read_in(row):
    if row[0] == "if":
        return row[1:]
    return () if row[0] in CLOSING else row[4:] if row[0] == "times" else row[3:]


class Lines:
    """The lines of a program's text, and where its blocks begin and end."""

    def __init__(self, program):
        lines = program_text(program).split("\n")
        self.head = [line for line in lines if line.startswith(("in ", "fact "))]
        self.body = lines[len(self.head):-1]
        self.outs = lines[-1].split(" ")[1:]
        self.rows = [told(line) for line in self.body]

    def line_of(self, number):
        """The position of the line with which the statement with a number begins; None if there is none."""
        found = [at for at, row in enumerate(self.rows) if row[0] not in CLOSING]
        return found[number] if 0 <= number < len(found) else None

    def half(self, at, word):
        """The line "else" or "end" of the "if" at a line."""
        depth = 0
        for k in range(at, len(self.rows)):
            depth += self.rows[k][0] == "if"
            if self.rows[k][0] == word and depth == 1:
                return k
            depth -= self.rows[k][0] == "end"
        raise AssertionError("no line")

    def around(self, at):
        """The "if" within whose arm a line stands, and the line that opens the arm; (None, -1) in the body."""
        for k in range(at - 1, -1, -1):
            if self.rows[k][0] == "if" and self.half(k, "end") > at:
                return k, (self.half(k, "else") if self.half(k, "else") < at else k)
        return None, -1

    def own(self, low, high):
        """The lines from one on up to another one that give names in this very block."""
        found, depth = [], 0
        for k in range(low, high):
            depth += (self.rows[k][0] == "if") - (self.rows[k][0] == "end")
            if depth == 0 and self.rows[k][0] not in ("if", *CLOSING):
                found.append(k)
        return found

    def end_of_block(self, at):
        """The line that closes the block in which a line stands."""
        around, opened = self.around(at)
        if around is None:
            return len(self.rows)
        return self.half(around, "else" if opened == around else "end")

    def made(self, body, outs=None):
        """The program of other lines; None if it is none."""
        text = "\n".join(self.head + body + [" ".join(["out", *(outs or self.outs)])])
        try:
            return read_program(text)
        except BadText:
            return None


def done(program, step):
    """The result of a pass; None if it does not go."""
    lines = Lines(program)
    at = lines.line_of(step[1])
    if at is None:
        return None
    return globals()["do_" + step[0]](lines, at, *step[2:])


def do_share(lines, at):
    row, body = lines.rows[at], list(lines.body)
    ahead, inner = [], at
    while inner is not None and row[0] != "if":
        around, opened = lines.around(inner)
        ahead += lines.own(opened + 1, inner)
        inner = around
    sides = [row[3:]] + ([row[:2:-1]] if row[0] in ("plus", "least", "greatest") else [])
    twins = [k for k in ahead if lines.rows[k][0] == row[0] and lines.rows[k][3:] in sides]
    if not twins:
        return None
    around, _ = lines.around(at)
    if around is not None:
        other, end = lines.half(around, "else"), lines.half(around, "end")
        if all(row[1] in [lines.rows[k][1] for k in lines.own(*ends)] for ends in ((around + 1, other), (other + 1, end))):
            return None
    instead = {row[1]: lines.rows[min(twins)][1]}
    for k in range(at + 1, lines.end_of_block(at)):
        words = body[k].split(" ")
        keep = 1 if words[0] == "if" else 4
        body[k] = " ".join(words[:keep] + [instead.get(word, word) for word in words[keep:]])
    outs = lines.outs if around is not None else [instead.get(name, name) for name in lines.outs]
    return lines.made(body[:at] + body[at + 1:], outs)


def do_drop(lines, at):
    row = lines.rows[at]
    if row[0] == "if" or row[1] in lines.outs or any(row[1] in read_in(other) for other in lines.rows[at:]):
        return None
    return lines.made(lines.body[:at] + lines.body[at + 1:])


def do_swap(lines, at):
    pair = lines.rows[at:at + 2]
    if len(pair) < 2 or any(row[0] in ("if", *CLOSING) for row in pair) or pair[0][1] in read_in(pair[1]):
        return None
    return lines.made(lines.body[:at] + lines.body[at:at + 2][::-1] + lines.body[at + 2:])


def arms(lines, at):
    """The lines of both arms of an "if", and what stands ahead and behind; None if it is no "if"."""
    if lines.rows[at][0] != "if":
        return None
    other, end = lines.half(at, "else"), lines.half(at, "end")
    return lines.body[at + 1:other], lines.body[other + 1:end], lines.body[:at], lines.body[end + 1:]


def do_hoist(lines, at):
    if lines.rows[at][0] != "if":
        return None
    then, other, ahead, behind = arms(lines, at)
    if not then or then[:1] != other[:1] or then[0].startswith("if "):
        return None
    return lines.made([*ahead, then[0], lines.body[at], *then[1:], "else", *other[1:], "end", *behind])


def do_sink(lines, at):
    if lines.rows[at][0] != "if":
        return None
    then, other, ahead, behind = arms(lines, at)
    if not then or then[-1:] != other[-1:] or then[-1] == "end":
        return None
    return lines.made([*ahead, lines.body[at], *then[:-1], "else", *other[:-1], "end", then[-1], *behind])


def do_merge(lines, at):
    if lines.rows[at][0] != "if":
        return None
    then, other, ahead, behind = arms(lines, at)
    return lines.made(ahead + then + behind) if then == other else None


def do_widen(lines, at, kind):
    row = lines.rows[at]
    if row[0] == "if" or int(row[2][1]) > kind[1] or (row[2][0], kind[0]) == ("both", "up"):
        return None
    words = lines.body[at].split(" ")
    return lines.made([*lines.body[:at], " ".join([words[0], kind[0], str(kind[1]), *words[3:]]), *lines.body[at + 1:]])
