"""What comes of a world: histories from a start to an end, and papers where there is none."""

from hedgejoin.deeds import cause_of, joined_world, pasts
from hedgejoin.errors import StepRefused
from hedgejoin.fields import holder, need_within, parted_pair
from hedgejoin.partings import check_parting, check_world, crossing_of, strife_of
from hedgejoin.rows import passed
from hedgejoin.shore import place_pairs


def leads(pond, start, end):
    """True if the end comes of the start."""
    check_world(pond, start)
    check_world(pond, end)
    return parted_pair(pond, start, end) is None


def check_road(pond, start, end):
    """Raise the errors of two worlds of which the first must lie within the second."""
    check_world(pond, start)
    check_world(pond, end)
    need_within(pond, start, end)


def deeds_needed(pond, start, end):
    """The number of deeds of each history from start to end."""
    check_road(pond, start, end)
    return len(start) - len(end)


def next_deeds(pond, start, end):
    """The plain deeds that stand in the start and leave a world within the end, sorted."""
    check_road(pond, start, end)
    return deeds_within(pond, start, end)


def deeds_within(pond, start, end):
    """What next_deeds returns for worlds of which the first is known to lie within the second."""
    pairs = [(start[low][0], start[high][0]) for low, high in place_pairs(len(start))]
    return [
        (x, y)
        for x, y in pairs
        if y in holder(end, x) and cause_of(pond, start, x, y) is None
    ]


def history(pond, start, end):
    """The first history from start to end."""
    check_road(pond, start, end)
    return first_history(pond, start, end)


def first_history(pond, start, end):
    """What history returns for worlds of which the first is known to lie within the second."""
    row = []
    world = start
    while world != end:
        deed = deeds_within(pond, world, end)[0]
        row.append(deed)
        world = joined_world(pond, world, deed[0], deed[1])
    return row


def last_worlds(pond, start, end):
    """The worlds over the start from which one deed leads to the end, in code order."""
    check_road(pond, start, end)
    return [world for world in pasts(pond, end) if parted_pair(pond, start, world) is None]


def history_through(pond, start, end, stops):
    """The row of the first histories from the start to the first stop, and so on to the end."""
    check_road(pond, start, end)
    for stop in stops:
        check_world(pond, stop)
    worlds = [start, *stops, end]
    for before, after in zip(worlds, worlds[1:]):
        need_within(pond, before, after)
    legs = [first_history(pond, before, after) for before, after in zip(worlds, worlds[1:])]
    return [deed for leg in legs for deed in leg]


def answer(pond, start, goal):
    """A history from the start to the goal, or a paper that shows that there is none."""
    check_world(pond, start)
    check_parting(pond, goal)
    lots = crossing_of(pond, goal)
    if lots is not None:
        return ("crossing", lots)
    strife = strife_of(pond, goal)
    if strife is not None:
        return ("strife", strife)
    pair = parted_pair(pond, start, goal)
    if pair is not None:
        return ("parted", pair)
    return ("history", tuple(first_history(pond, start, goal)))


def is_answer(pond, start, goal, reply):
    """True if the reply is a right answer to whether the goal comes of the start."""
    check_world(pond, start)
    check_parting(pond, goal)
    word, thing = reply
    if word == "history":
        return does_lead(pond, start, goal, thing)
    if not all([item in pond for item in thing]):
        return False
    if word == "crossing":
        return is_crossing_paper(pond, goal, thing)
    if word == "strife":
        return is_strife_paper(pond, goal, thing)
    return word == "parted" and is_parted_paper(start, goal, thing)


def does_lead(pond, start, goal, row):
    """True if all items of the row are deeds that stand, and they lead to the goal."""
    if any([isinstance(item, str) for item in row]):
        return False
    try:
        worlds = passed(pond, start, row)
    except StepRefused:
        return False
    return worlds[-1] == goal


def is_crossing_paper(pond, goal, lots):
    """True if these are four lots in shore order at which two fields of the goal cross."""
    if len(lots) != 4:
        return False
    a, b, c, d = lots
    in_order = pond.position(a) < pond.position(b) < pond.position(c) < pond.position(d)
    one = holder(goal, a)
    two = holder(goal, b)
    return in_order and c in one and d in two and one != two


def is_strife_paper(pond, goal, lots):
    """True if these are two lots at strife that are together in the goal."""
    if len(lots) != 2:
        return False
    x, y = lots
    return pond.at_strife(x, y) and y in holder(goal, x)


def is_parted_paper(start, goal, lots):
    """True if these are two lots that are together in the start and apart in the goal."""
    if len(lots) != 2:
        return False
    x, y = lots
    return y in holder(start, x) and y not in holder(goal, x)
