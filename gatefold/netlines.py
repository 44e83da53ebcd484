"""Nets written as lines of text, and read from them."""

from gatefold.errors import NoLine, NoName
from gatefold.gates import LETTERS, has_parts, is_name
from gatefold.nets import Net

MOST_INPUTS = 10
MOST_OUTPUTS = 16


def words(text):
    if not all([sign == " " or sign in LETTERS for sign in text]):
        return []
    # Of all that `split` cuts at, only blanks can be left here.
    return text.split()


def written(net):
    lines = [" ".join(["in"] + list(net.inputs))]
    for name, word, parts in net.gates:
        lines.append(" ".join([name, "is", word] + list(parts)))
    lines.append(" ".join(["out"] + list(net.outputs)))
    return lines


def names_behind(first, most, row):
    if len(row) < 2 or len(row) > most + 1 or row[0] != first:
        raise NoLine(f"not {first} and one to {most} words behind")
    return row[1:]


def inputs_of(row):
    names = names_behind("in", MOST_INPUTS, row)
    for name in names:
        if not is_name(name):
            raise NoName(f"{name} is no name")
    if len(set(names)) < len(names):
        raise NoName("an input is told twice")
    return names


def gate_of(row, known):
    if len(row) < 3 or row[1] != "is" or not has_parts(row[2], len(row) - 3):
        raise NoLine("not a name, is, the word of a gate and its parts")
    name = row[0]
    if not is_name(name) or name in known:
        raise NoName(f"{name} is no name, or was told ahead")
    need_known(row[3:], known)
    return (name, row[2], row[3:])


def outputs_of(row, known):
    names = names_behind("out", MOST_OUTPUTS, row)
    need_known(names, known)
    return names


def need_known(names, known):
    for name in names:
        if name not in known:
            raise NoName(f"{name} was not told ahead")


def net_of(lines):
    if len(lines) < 2:
        raise NoLine("a net has two lines or more")
    inputs = inputs_of(words(lines[0]))
    known = dict([(name, True) for name in inputs])
    gates = []
    for line in lines[1:-1]:
        gate = gate_of(words(line), known)
        known[gate[0]] = True
        gates.append(gate)
    return Net(inputs, gates, outputs_of(words(lines[-1]), known))
