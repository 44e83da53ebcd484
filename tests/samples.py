"""What several test files need: nets made by a fixed seed, and a second way to tell what they tell."""

import random

KEPT_WORDS = ["in", "out", "is", "and", "or", "either", "not", "choose", "most", "yes", "no"]

# For each word of a gate, the numbers of parts that it may have.
COUNTS = {
    "and": [2, 3, 4, 5, 6],
    "or": [2, 3, 4, 5, 6],
    "either": [2, 3, 4, 5, 6],
    "not": [1],
    "choose": [3],
    "most": [3],
    "yes": [0],
    "no": [0],
}


def gate_truth(word, truths):
    """Where a gate is lit, told apart from the program."""
    lit = len([truth for truth in truths if truth])
    if word == "and":
        return lit == len(truths)
    if word == "or":
        return lit != 0
    if word == "either":
        return lit in (1, 3, 5)
    if word == "not":
        return lit == 0
    if word == "choose":
        return tuple(truths) in {
            (True, True, True),
            (True, True, False),
            (False, True, True),
            (False, False, True),
        }
    if word == "most":
        return lit in (2, 3)
    return {"yes": True, "no": False}[word]


def net_truths(inputs, gates, outputs, truths):
    """What a net tells, told apart from the program: each name asks for its parts."""
    lit = dict(zip(inputs, truths, strict=True))
    by_name = {name: (word, parts) for name, word, parts in gates}

    def truth(name):
        if name not in lit:
            word, parts = by_name[name]
            lit[name] = gate_truth(word, [truth(part) for part in parts])
        return lit[name]

    return [truth(name) for name in outputs]


def lighting_truths(lighting, many):
    """The list of truths of a lighting: its figures to the base two, the last one first."""
    return [figure == "1" for figure in reversed(f"{lighting:0{many}b}")]


def fresh_name(number):
    letters = "abcdefghijklmnopqrstuvwxyz"
    return "n" + letters[number // 26] + letters[number % 26]


def made_net(many, gate_count, output_count, seed):
    """The inputs, gates and outputs of a net, the same for the same seed."""
    chance = random.Random(seed)
    inputs = [fresh_name(number) for number in range(many)]
    told = list(inputs)
    gates = []
    for number in range(many, many + gate_count):
        word = chance.choice(sorted(COUNTS))
        parts = [chance.choice(told) for part in range(chance.choice(COUNTS[word]))]
        gates.append((fresh_name(number), word, parts))
        told.append(fresh_name(number))
    # The later gates are the deeper ones: without them much of the net would go unseen.
    outputs = [told[-1]] + [chance.choice(told) for output in range(output_count - 1)]
    return inputs, gates, outputs
