"""Mazes: ways from springs to goals that are apart, and places that stop all ways.

Ways are sought from the goals down. Each place has two ends: one comes into it from above
by its head, and leaves it downward by its foot. Where no way lies, its head leads to its
foot. Where a way lies, no second one may pass: who comes to the head of such a place goes
back up along that way to the foot of the next place, from where the way may then be led
elsewhere; and who comes so to a foot may go on to its head, which takes the place out of
the way.
"""

from gatefold.errors import NoGoal


def head(place):
    return 2 * place


def foot(place):
    return 2 * place + 1


def need_goals(maze, goals):
    for goal in goals:
        if goal < 0 or goal >= len(maze) or len(maze[goal]) == 0:
            raise NoGoal("a goal is a spring or no place of the maze")


def next_ends(maze, above, end):
    place = end // 2
    if end == foot(place):
        return [head(lower) for lower in maze[place]] + [head(place)]
    if place not in above:
        return [foot(place)]
    return [] if above[place] is None else [foot(above[place])]


def search(maze, goals, above):
    # Tells a spring that was come to, or None, and for each end the one it was come to from.
    came = {}
    # All places below goals are begun with. So who comes to a goal finds nothing new below it,
    # and no way goes through one.
    for goal in goals:
        for lower in maze[goal]:
            came[head(lower)] = None
    waiting = list(came)
    while waiting:
        end = waiting.pop()
        place = end // 2
        # In a spring that is come to at its foot there lies no way: nothing would lead back to it.
        if end == foot(place) and len(maze[place]) == 0:
            return place, came
        for ahead in next_ends(maze, above, end):
            if ahead not in came:
                came[ahead] = end
                waiting.append(ahead)
    return None, came


def lead(above, came, spring):
    # Each head is come to but once: so no step undoes another one, and they can be taken
    # from the spring up.
    end = foot(spring)
    while end is not None:
        place = end // 2
        upper = came[end]
        if end == head(place):
            if upper is None:
                above[place] = None
            elif upper == foot(place):
                above.pop(place)
            else:
                above[place] = upper // 2
        end = upper


def way_from(above, spring):
    way = [spring]
    while above[way[-1]] is not None:
        way.append(above[way[-1]])
    return way


def ways_of(maze, above):
    springs = [place for place in sorted(above) if len(maze[place]) == 0]
    return [way_from(above, spring) for spring in springs]


def stops_of(came):
    # What was come to and could not be passed: one place of each way.
    return [end // 2 for end in sorted(came) if foot(end // 2) not in came]


def apart(maze, goals, most):
    need_goals(maze, goals)
    # For each place in which a way lies, the next place of that way; None where it is the last one.
    above = {}
    for number in range(most + 1):
        found = search(maze, goals, above)
        if found[0] is None:
            return ways_of(maze, above), stops_of(found[1])
        lead(above, found[1], found[0])
    return ways_of(maze, above), None
