"""Texts of benches: written, and read line by line (part 12)."""

from tripmeans.edits import first_unkept
from tripmeans.errors import BadText
from tripmeans.promises import is_label, is_promise
from tripmeans.texts import Reader, program_text, read_parts


def bench_lines(kept):
    """The lines of the text of what a bench keeps."""
    programs, promises = kept
    lines = ["bench"]
    for label in sorted(programs):
        lines.append(f"program {label}")
        lines.extend(program_text(programs[label]).split("\n"))
    lines.extend([" ".join(promise) for promise in promises])
    return lines


def read_bench(text):
    """What a bench of this text keeps; raises BadText with the number of the first line that cannot stand."""
    if not isinstance(text, str):
        raise BadText(0)
    reader = Reader(text.split("\n"))
    reader.go_on(reader.words() == ["bench"])
    programs = read_programs(reader)
    start = reader.at
    promises = read_promises(reader, programs)
    found = first_unkept(({}, ()), (programs, promises))
    if found is not None:
        raise BadText(start + promises.index(found[0]) + 1)
    return programs, promises


def is_line_next(reader, word):
    """Whether there is a next line, and it begins with a word."""
    return reader.at < len(reader.lines) and reader.words()[0] == word


def read_programs(reader):
    """The programs of the lines that are next, by their labels."""
    programs = {}
    last = ""
    while is_line_next(reader, "program"):
        words = reader.words()
        reader.go_on(len(words) == 2 and is_label(words[1]) and words[1] > last)
        last = words[1]
        programs[last] = read_parts(reader)
    return programs


def read_promises(reader, programs):
    """The promises of all lines from the next one on."""
    promises = []
    while reader.at < len(reader.lines):
        promise = promise_of(reader.words())
        reader.go_on(is_promise(programs, promise) and promise not in promises)
        promises.append(promise)
    return tuple(promises)


def promise_of(words):
    """The promise of the words of a line, or what is no promise."""
    if words[:2] == ["never", "trips"]:
        return ("never trips", *words[2:])
    return tuple(words)
