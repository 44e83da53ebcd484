"""Nets of gates."""

from gatefold.bits import full_column, input_columns
from gatefold.gates import column_by, truth_columns


class Net:
    def __init__(self, inputs, gates, outputs):
        # Copies, the parts too: whoever made the net may change those lists behind.
        self.inputs = tuple(inputs)
        self.gates = tuple([(name, word, tuple(parts)) for name, word, parts in gates])
        self.outputs = tuple(outputs)

    def told(self, truths):
        lit = self.carried(truth_columns(truths), full_column(0))
        return [column == 1 for column in lit]

    def columns(self):
        many = len(self.inputs)
        return self.carried(input_columns(many), full_column(many))

    def carried(self, columns, every):
        known = dict(zip(self.inputs, columns))
        for name, word, parts in self.gates:
            known[name] = column_by(word, [known[part] for part in parts], every)
        return [known[name] for name in self.outputs]
