"""Columns: whole numbers that tell by their bits at which lightings something is lit."""


def full_column(many):
    return (1 << (1 << many)) - 1


def input_columns(many):
    columns = []
    every = 1
    width = 1
    for place in range(many):
        # A further input doubles the lightings: it is unlit in the lower half of them and
        # lit in the upper half, and the inputs ahead of it are in both halves as they were.
        columns = [column | (column << width) for column in columns]
        columns.append(every << width)
        every = every | (every << width)
        width = width * 2
    return columns
