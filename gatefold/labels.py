"""The labels of knots, and what shows that they can be had and that none is too great."""

from gatefold.cones import cone
from gatefold.errors import NoKnot, NoSize
from gatefold.mazes import apart
from gatefold.wholes import is_between

LEAST_SIZE = 2
GREATEST_SIZE = 6


def need_size(size):
    if not is_between(size, LEAST_SIZE, GREATEST_SIZE):
        raise NoSize("not a whole number from 2 to 6")


def maze_of(fold):
    # The knots as places: knot 0 and the inputs are the springs.
    maze = []
    for knot in range(fold.total()):
        pair = fold.pair(knot)
        maze.append([] if pair is None else [pair[0] // 2, pair[1] // 2])
    return maze


class Labels:
    def __init__(self, fold, size):
        need_size(size)
        self.levels = [0] * (fold.many + 1)
        # By and-knots: what is told of them is found once, while the fold is as it was handed in.
        self.found_cuts = {}
        self.found_ways = {}
        maze = maze_of(fold)
        for knot in range(fold.many + 1, fold.total()):
            self.settle(maze, cone(fold, knot), size)

    def settle(self, maze, inner, size):
        knot = inner[-1]
        lowers = maze[knot]
        greatest = max([self.levels[lower] for lower in lowers])
        if greatest == 0:
            self.keep(knot, 1, lowers, [])
            return
        # A label is that of the greater of the two lower knots or one more: it is the former
        # where the knots from that label on can be cut off, the knot itself among them.
        goals = [lower for lower in inner if lower == knot or self.levels[lower] == greatest]
        told = apart(maze, goals, size)
        if told[1] is None:
            self.keep(knot, greatest + 1, lowers, told[0])
        else:
            # The ways of a lower knot of the same label show as much of this one.
            same = [lower for lower in lowers if self.levels[lower] == greatest]
            self.keep(knot, greatest, told[1], self.found_ways[same[0]])

    def keep(self, knot, level, cut, ways):
        self.levels.append(level)
        self.found_cuts[knot] = cut
        self.found_ways[knot] = ways

    def need_and_knot(self, knot):
        if knot not in self.found_cuts:
            raise NoKnot("no and-knot of these labels")

    def label(self, knot):
        if knot < 0 or knot >= len(self.levels):
            raise NoKnot("no knot of these labels")
        return self.levels[knot]

    def cut(self, knot):
        self.need_and_knot(knot)
        return list(self.found_cuts[knot])

    def ways(self, knot):
        self.need_and_knot(knot)
        return [list(way) for way in self.found_ways[knot]]
