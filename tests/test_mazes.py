import copy
import itertools
import random
import unittest

from gatefold.errors import NoGoal
from gatefold.mazes import apart
from samples import HUGE


def stops(maze, goals, places):
    """Whether these places stop the maze, told apart from the program: who goes up from the springs past none of them."""
    free = []
    for place, below in enumerate(maze):
        is_open = place not in goals and place not in places
        free.append(is_open and (below == [] or any(free[lower] for lower in below)))
    return not any(free[lower] for goal in goals for lower in maze[goal])


def fewest_stops(maze, goals):
    """The least number of places that stop the maze, by looking at all sets of places."""
    places = [place for place in range(len(maze)) if place not in goals]
    for count in range(len(places) + 1):
        if any(stops(maze, goals, some) for some in itertools.combinations(places, count)):
            return count
    raise AssertionError("all places together stop every maze")


def all_ways(maze, goals):
    """All ways of a small maze."""
    found = []
    ahead = [[place] for place, below in enumerate(maze) if below == []]
    while ahead:
        way = ahead.pop()
        if any(way[-1] in maze[goal] for goal in goals):
            found.append(way)
        ahead += [way + [place] for place in range(len(maze)) if way[-1] in maze[place] and place not in goals]
    return found


def most_apart(ways):
    """How many of these ways can be apart, by trying each one and leaving it."""
    if not ways:
        return 0
    rest = [way for way in ways[1:] if not set(way) & set(ways[0])]
    return max(1 + most_apart(rest), most_apart(ways[1:]))


def small_mazes(count):
    """All mazes of so many places, the places below in rising order."""
    rows = []
    for place in range(count):
        below = [list(some) for many in range(place + 1) for some in itertools.combinations(range(place), many)]
        rows.append(below)
    return [list(maze) for maze in itertools.product(*rows)]


def goal_lists(maze):
    places = [place for place, below in enumerate(maze) if below]
    return [list(some) for count in range(len(places) + 1) for some in itertools.combinations(places, count)]


def made_maze(count, springs, below, seed, reach=None):
    """A maze of so many places, with so many below a place at the most, the same for the same seed."""
    chance = random.Random(seed)
    maze = []
    for place in range(count):
        low = 0 if reach is None else max(0, place - reach)
        many = 0 if place < springs else min(chance.randint(0 if chance.random() < 0.05 else 1, below), place - low)
        maze.append(chance.sample(range(low, place), many))
    return maze


def made_goals(maze, count, seed):
    chance = random.Random(seed)
    places = [place for place, below in enumerate(maze) if below]
    return chance.sample(places, min(count, len(places)))


def layers(width, height, shift):
    """Rows of places, each with those of the same column and of one further column below it, and a goal on top."""
    maze = [[] for place in range(width)]
    for place in range(width, width * height):
        row = place // width
        maze.append(sorted({(row - 1) * width + (place + step) % width for step in (0, shift)}))
    maze.append([(height - 1) * width + column for column in range(width)])
    return maze


class Checks(unittest.TestCase):
    def check_ways(self, maze, goals, ways):
        self.assertIs(type(ways), list)
        self.assertEqual(ways, sorted(ways))
        for way in ways:
            self.assertIs(type(way), list)
            self.assertEqual(maze[way[0]], [])
            for one, other in zip(way, way[1:]):
                self.assertIn(one, maze[other])
            self.assertTrue(any(way[-1] in maze[goal] for goal in goals))
        told = [place for way in ways for place in way]
        for place in told:
            self.assertIs(type(place), int)
            self.assertIn(place, range(len(maze)))
        self.assertEqual(len(told), len(set(told)))
        self.assertEqual(set(told) & set(goals), set())

    def check_places(self, maze, goals, places):
        self.assertIs(type(places), list)
        for place in places:
            self.assertIs(type(place), int)
            self.assertIn(place, range(len(maze)))
        self.assertEqual(places, sorted(set(places)))
        self.assertEqual(set(places) & set(goals), set())
        self.assertTrue(stops(maze, goals, places))

    def check_apart(self, maze, goals, most, greatest=None):
        """What is told proves itself; `greatest` is how many ways there can be, where that is known."""
        handed = copy.deepcopy((maze, goals))
        told = apart(maze, goals, most)
        self.assertEqual((maze, goals), handed)
        self.assertIs(type(told), tuple)
        ways, places = told
        self.check_ways(maze, goals, ways)
        if places is None:
            self.assertEqual(len(ways), most + 1)
        else:
            self.assertLessEqual(len(ways), most)
            self.assertEqual(len(places), len(ways))
            self.check_places(maze, goals, places)
        if greatest is not None:
            self.assertEqual(len(ways), min(greatest, most + 1))
            self.assertEqual(places is None, greatest > most)
        return ways, places


class ApartTest(Checks):
    def test_no_place_and_springs_alone(self):
        for most in range(11):
            self.assertEqual(apart([], [], most), ([], []))
            self.assertEqual(apart([[]], [], most), ([], []))
            self.assertEqual(apart([[], [], []], [], most), ([], []))

    def test_no_goals(self):
        for most in range(11):
            self.assertEqual(apart([[], [], [0, 1], [2]], [], most), ([], []))

    def test_a_spring_below_a_goal(self):
        self.assertEqual(apart([[], [0]], [1], 0), ([[0]], None))
        for most in range(1, 11):
            self.assertEqual(apart([[], [0]], [1], most), ([[0]], [0]))

    def test_written_mazes(self):
        self.assertEqual(apart([[], [], [1, 0]], [2], 0)[1], None)
        self.assertEqual(apart([[], [], [1, 0]], [2], 1), ([[0], [1]], None))
        self.assertEqual(apart([[], [], [1, 0]], [2], 2), ([[0], [1]], [0, 1]))
        # One place that all ways have in them.
        maze = [[], [], [0, 1], [2], [2, 3], [3, 4]]
        ways, places = self.check_apart(maze, [5], 3, 1)
        self.assertEqual(places, [2])
        self.check_apart(maze, [5], 0, 1)
        self.check_apart(maze, [5], 1, 1)
        # What is below a goal and only leads to that goal's other places.
        self.assertEqual(apart([[], [0], [1], [2]], [3], 5)[0], [[0, 1, 2]])

    def test_a_way_that_must_be_led_elsewhere(self):
        # Each of 2 and 3 can be come to from 0; only 2 from 1: whoever takes 0 to 2 first must turn back.
        for below in ([2, 3], [3, 2]):
            self.assertEqual(apart([[], [], [0, 1], [0], below], [4], 2)[0], [[0, 3], [1, 2]])
            self.assertEqual(apart([[], [], [1, 0], [0], below], [4], 2)[0], [[0, 3], [1, 2]])
            self.assertEqual(apart([[], [], [0, 1], [0], below], [4], 1), ([[0, 3], [1, 2]], None))
        # Here places are left by a way and taken by none.
        maze = [[], [], [0], [1, 2], [0], [3, 4]]
        self.check_apart(maze, [5], 5, 2)
        self.check_apart([[], [], [0, 1], [2], [2, 0], [3, 1], [4, 5]], [6], 5, 2)

    def test_a_goal_below_a_goal(self):
        maze = [[], [], [0], [2, 1], [3]]
        self.assertEqual(apart(maze, [4, 3], 4), ([[0, 2], [1]], [1, 2]))
        self.assertEqual(apart(maze, [3], 4), ([[0, 2], [1]], [1, 2]))
        self.check_apart(maze, [4], 4, 1)
        # A goal shuts a way off: 2 is a goal, and 3 has nothing else below it.
        self.assertEqual(apart([[], [0], [1], [2]], [2, 3], 4)[0], [[0, 1]])
        self.assertEqual(apart([[], [0], [1], [2], [3]], [1, 4], 4), ([[0]], [0]))

    def test_a_place_of_a_way_that_only_goals_are_below(self):
        # Place 2 is no spring, though below it there is a goal alone: no way begins there.
        self.assertEqual(apart([[], [0], [1], [2]], [1, 3], 3), ([[0]], [0]))
        self.assertEqual(apart([[], [], [0], [2], [3, 1]], [2, 4], 3), ([[0], [1]], [0, 1]))

    def test_all_mazes_of_few_places(self):
        for count in range(5):
            for maze in small_mazes(count):
                for goals in goal_lists(maze):
                    greatest = fewest_stops(maze, goals)
                    self.assertEqual(greatest, most_apart(all_ways(maze, goals)))
                    for most in range(11):
                        self.check_apart(maze, goals, most, greatest)

    def test_all_mazes_of_five_places_and_one_goal(self):
        for maze in small_mazes(5):
            for goals in goal_lists(maze):
                if len(goals) == 1:
                    greatest = fewest_stops(maze, goals)
                    for most in (0, 1, 2, 5):
                        self.check_apart(maze, goals, most, greatest)

    def test_made_mazes_of_up_to_eleven_places(self):
        for number in range(600):
            maze = made_maze(5 + number % 7, 1 + number % 4, 2 + number % 3, f"small {number}")
            goals = made_goals(maze, number % 4, f"goals {number}")
            greatest = fewest_stops(maze, goals)
            with self.subTest(maze=maze, goals=goals):
                for most in (0, 1, 2, 3, 10):
                    self.check_apart(maze, goals, most, greatest)

    def test_layers(self):
        for width in range(1, 13):
            for shift in (0, 1, width // 2):
                maze = layers(width, 12, shift)
                for most in range(11):
                    self.check_apart(maze, [len(maze) - 1], most, width)

    def test_layers_with_a_row_that_is_narrower(self):
        for narrow in range(1, 6):
            width, height = 7, 15
            maze = layers(width, height, 1)
            goals = [len(maze) - 1]
            first = 8 * width
            # Below row 8 there are only the first few places of row 7.
            for place in range(first, first + width):
                row = [first - width + column for column in range(narrow)]
                maze[place] = row if place % 2 else row[::-1]
            self.check_apart(maze, goals, 6, narrow)
            self.check_apart(maze, goals, narrow, narrow)
            self.check_apart(maze, goals, narrow - 1, narrow)

    def test_made_mazes_of_two_to_three_hundred_places(self):
        for number in range(60):
            reach = [None, 3, 8, 30, 90][number % 5]
            maze = made_maze(200 + 100 * (number % 2), 1 + number % 16, 2 + number % 5, f"large {number}", reach)
            for count in (1, 2, 9, 80):
                goals = made_goals(maze, count, f"large goals {number}")
                with self.subTest(number=number, count=count):
                    for most in (0, 1, 4, 6, 10):
                        self.check_apart(maze, goals, most)

    def test_mazes_where_most_places_are_below(self):
        maze = [[] for place in range(15)] + [list(range(place)) for place in range(15, 300)]
        self.check_apart(maze, [299], 10, 15)
        self.check_apart(maze, list(range(15, 300)), 10, 15)
        maze = [[] for place in range(8)] + [list(range(place - 1, -1, -1)) for place in range(8, 300)]
        self.check_apart(maze, [299], 10, 8)
        self.check_apart(maze, [8, 299], 7, 8)

    def test_long_rows(self):
        row = [[]] + [[place] for place in range(299)]
        self.assertEqual(apart(row, [299], 0), ([list(range(299))], None))
        ways, places = self.check_apart(row, [299], 10, 1)
        self.assertEqual(ways, [list(range(299))])
        self.assertEqual(apart(row, [299, 1], 10), ([[0]], [0]))
        ladder = [[], []] + [[place, place + 1] for place in range(298)]
        self.check_apart(ladder, [299], 10, 2)
        self.check_apart(ladder, [299], 1, 2)
        self.check_apart(ladder, [150, 299], 4, 2)

    def test_a_long_way_that_must_be_led_elsewhere_again_and_again(self):
        # Two rows side by side; steps across them tempt a way out of its row.
        for turn in (False, True):
            maze = [[], []]
            while len(maze) < 280:
                place = len(maze)
                below = [place - 2] + ([place - 1] if place % 2 else [])
                maze.append(below[::-1] if turn else below)
            maze.append([279, 278] if turn else [278, 279])
            self.check_apart(maze, [280], 5, 2)

    def test_the_order_of_places_and_goals_changes_no_count(self):
        for number in range(40):
            maze = made_maze(30, 6, 3, f"order {number}")
            goals = made_goals(maze, 5, f"order {number}")
            ways = self.check_apart(maze, goals, 10)[0]
            turned = [below[::-1] for below in maze]
            self.assertEqual(len(self.check_apart(turned, goals[::-1], 10)[0]), len(ways))

    def test_the_lists_told_are_the_askers_own(self):
        maze = [[], [], [0, 1], [1], [2, 3]]
        goals = [4]
        ways, places = apart(maze, goals, 3)
        was = copy.deepcopy((ways, places))
        for way in ways:
            way.append(99)
        ways.append([0])
        places.clear()
        self.assertEqual((maze, goals), ([[], [], [0, 1], [1], [2, 3]], [4]))
        again = apart(maze, goals, 3)
        self.assertEqual(again, was)
        maze[4].clear()
        maze.clear()
        goals.clear()
        self.assertEqual(again, was)
        nothing = apart([[]], [], 3)
        nothing[0].append(1)
        nothing[1].append(2)
        self.assertEqual(apart([[]], [], 3), ([], []))


class RefusedTest(unittest.TestCase):
    def check_refused(self, maze, goals):
        handed = copy.deepcopy((maze, goals))
        for most in (0, 1, 10):
            with self.subTest(maze=maze, goals=goals):
                with self.assertRaises(NoGoal) as taken:
                    apart(maze, goals, most)
                self.assertIs(type(taken.exception), NoGoal)
                self.assertEqual((maze, goals), handed)

    def test_a_goal_that_is_a_spring(self):
        self.check_refused([[]], [0])
        maze = [[], [0], [], [1, 2]]
        for goals in ([0], [2], [3, 0], [0, 3], [1, 3, 2], [2, 1]):
            self.check_refused(maze, goals)

    def test_a_goal_that_is_no_place(self):
        maze = [[], [0], [], [1, 2]]
        for place in (-1, -2, -3, -4, -5, 4, 5, 99, HUGE, -HUGE):
            for goals in ([place], [place, 3], [3, place], [1, place, 3]):
                self.check_refused(maze, goals)
            self.check_refused([], [place])
        self.check_refused([], [0])
        self.check_refused([[], []], [2])


if __name__ == "__main__":
    unittest.main()
