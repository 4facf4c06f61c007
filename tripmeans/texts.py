"""Texts of programs: written, and read line by line (part 2)."""

from tripmeans.errors import BadText
from tripmeans.programs import (MOST_FACTS, MOST_INS, MOST_STATEMENTS, WIDEST, are_known, are_outs, can_give,
                                demand_program, given_in, is_fact, is_kind, is_name, known_past)

SIGNS = {"plus": "+", "minus": "-", "times": "*"}


def program_text(program):
    """The text of a program."""
    demand_program(program)
    ins, facts, body, outs = program
    lines = [f"in {name} {word} {k}" for name, (word, k) in ins]
    lines.extend([f"fact {small} {large}" for small, large in facts])
    lines.extend(block_lines(body))
    lines.append(" ".join(["out", *outs]))
    return "\n".join(lines)


def block_lines(block):
    """The lines of the statements of a body or an arm."""
    lines = []
    for item in block:
        if item[0] == "if":
            lines.append(f"if {item[1]} <= {item[2]}")
            lines.extend(block_lines(item[3]))
            lines.append("else")
            lines.extend(block_lines(item[4]))
            lines.append("end")
        else:
            lines.append(giving_line(item))
    return lines


def giving_line(statement):
    """The line of a statement that gives a name."""
    word, name, (kind, k), one, other = statement
    if word in SIGNS:
        return f"{name} {kind} {k} = {one} {SIGNS[word]} {other}"
    return f"{name} {kind} {k} = {word} {one} {other}"


class Reader:
    """Lines and the place up to which they are read, with the number of statements of the program that is read."""

    def __init__(self, lines):
        self.lines = lines
        self.at = 0
        self.many = 0

    def words(self):
        """The words of the line that is next; raises BadText behind the last line."""
        if self.at >= len(self.lines):
            raise BadText(self.at + 1)
        return self.lines[self.at].split(" ")

    def go_on(self, can_stand):
        """Goes on behind the line that is next; raises BadText with its number if it cannot stand there."""
        if not can_stand:
            raise BadText(self.at + 1)
        self.at += 1

    def go_on_statement(self, can_stand):
        """The same for the line with which a statement begins, which is counted."""
        self.go_on(can_stand and self.many < MOST_STATEMENTS)
        self.many += 1


def read_program(text):
    """The program of a text; raises BadText with the number of the first line that cannot stand."""
    if not isinstance(text, str):
        raise BadText(0)
    reader = Reader(text.split("\n"))
    program = read_parts(reader)
    if reader.at < len(reader.lines):
        raise BadText(reader.at + 1)
    return program


def read_parts(reader):
    """The program of the lines that are next, up to its line of outs."""
    reader.many = 0
    ins = read_ins(reader)
    facts = read_facts(reader, ins)
    body, known = read_block(reader, ins, {}, "out")
    outs = tuple(reader.words()[1:])
    reader.go_on(are_outs(known, outs))
    return (tuple(ins.items()), facts, body, outs)


def read_ins(reader):
    """The inputs of the lines that are next, as a dict of their kinds.

    If there are none, no line can stand behind them: each other line needs a name that is known.
    """
    ins = {}
    words = reader.words()
    while words[0] == "in":
        kind = read_kind(words[2:])
        reader.go_on(is_kind(kind) and is_name(words[1]) and words[1] not in ins and len(ins) < MOST_INS)
        ins[words[1]] = kind
        words = reader.words()
    return ins


def read_facts(reader, ins):
    """The facts of the lines that are next, about these inputs."""
    facts = []
    words = reader.words()
    while words[0] == "fact":
        fact = tuple(words[1:])
        rises = not facts or facts[-1] < fact
        reader.go_on(is_fact(ins, fact) and rises and len(facts) < MOST_FACTS)
        facts.append(fact)
        words = reader.words()
    return tuple(facts)


def read_block(reader, known, asked, last):
    """The statements up to the line that begins with the word last, and what is known behind them."""
    block = []
    here = known
    words = reader.words()
    while words[0] != last:
        if words[0] == "if":
            item = read_if(reader, here)
        else:
            item = read_giving(words)
            reader.go_on_statement(can_give(here, asked, item))
        block.append(item)
        here = known_past(here, item)
        words = reader.words()
    return tuple(block), here


def read_if(reader, known):
    """The "if" of the lines that are next, up to its line "end"."""
    words = reader.words()
    names = words[1::2]
    reader.go_on_statement(len(words) == 4 and words[2] == "<=" and are_known(known, names))
    then, _ = read_block(reader, known, {}, "else")
    reader.go_on(reader.words() == ["else"])
    other, _ = read_block(reader, known, given_in(then), "end")
    reader.go_on(reader.words() == ["end"])
    return ("if", names[0], names[1], then, other)


def read_giving(words):
    """The statement of a line that gives a name; None if the line has not the form of one."""
    if len(words) != 7 or words[3] != "=":
        return None
    name, kind = words[0], read_kind(words[1:3])
    one, sign, other = words[4:]
    if sign == "*":
        return ("times", name, kind, read_integer(one), other)
    if sign == "+":
        return ("plus", name, kind, one, other)
    if sign == "-":
        return ("minus", name, kind, one, other)
    if one == "least" or one == "greatest":
        return (one, name, kind, sign, other)
    return None


def read_kind(words):
    """The kind of two words, or what is no kind."""
    if len(words) != 2:
        return None
    return (words[0], read_integer(words[1]))


def read_integer(word):
    """The integer that Python writes as this word; None if there is none that can stand in a program."""
    for x in range(-WIDEST, WIDEST + 1):
        if str(x) == word:
            return x
    return None
