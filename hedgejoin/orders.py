"""Orders: small programs of deeds, their texts, and what comes of running them."""

from hedgejoin.counts import all_worlds
from hedgejoin.errors import OrderRefused, Stuck
from hedgejoin.limits import check_most
from hedgejoin.partings import check_world
from hedgejoin.reader import Reader
from hedgejoin.runner import Runner

MOST_STATEMENTS = 12
DEEPEST = 3
MOST_RUN = 7
MOST_COMPARED = 4


def parse_order(text):
    """The order that the text writes."""
    order = Reader([] if text == "" else text.split(" ")).read_all()
    check_most(count_statements(order), MOST_STATEMENTS)
    check_most(depth_of(order), DEEPEST)
    return order


def bodies_of(statement):
    """The bodies of the statement, if it has any."""
    if statement[0] in ("join", "clear"):
        return ()
    return statement[2:]


def with_depths(order):
    """All statements, inner ones included, each with the number of bodies around it.

    A text that is too long for an order can be very deep, so there is no recursion here.
    """
    found = []
    waiting = [(statement, 0) for statement in order]
    while len(waiting) > 0:
        statement, depth = waiting.pop()
        found.append((statement, depth))
        inner = [(each, depth + 1) for body in bodies_of(statement) for each in body]
        waiting = waiting + inner
    return found


def count_statements(order):
    """The number of statements, inner ones included."""
    return len(with_depths(order))


def depth_of(order):
    """The nesting depth of the order."""
    depths = [depth + 1 for statement, depth in with_depths(order) if len(bodies_of(statement)) > 0]
    return max(depths, default=0)


def format_order(order):
    """The text of the order."""
    return " ".join(words_of(order))


def words_of(order):
    """The words of the text of the order."""
    return [word for statement in order for word in words_of_statement(statement)]


def words_of_statement(statement):
    """The words of one statement."""
    word = statement[0]
    if word in ("join", "clear"):
        return list(statement)
    head = [word, statement[1]]
    if word != "each":
        head = [word, *words_of_test(statement[1])]
    if word == "while" and statement[1][0] == "not":
        head = ["until", *words_of_test(statement[1][1])]
    words = [*head, "do", *words_of(statement[2])]
    if word == "if" and len(statement[3]) > 0:
        words = [*words, "else", *words_of(statement[3])]
    return [*words, "end"]


def words_of_test(test):
    """The words of a test."""
    if test[0] == "not":
        return ["not", *test[1]]
    return list(test)


def order_of(row):
    """The order of one `join` for each deed of the row."""
    return tuple([("join", x, y) for x, y in row])


def run_order(pond, world, order):
    """The world after the order, and the plain deeds done."""
    check_most(len(pond), MOST_RUN)
    check_world(pond, world)
    runner = Runner(pond, world)
    runner.run_body(order, (), {})
    return runner.result()


def outcome(pond, world, order):
    """The world after the order, or the place at which it is refused or stuck."""
    try:
        after, _ = run_order(pond, world, order)
    except OrderRefused as refused:
        return ("refused", refused.place)
    except Stuck as stuck:
        return ("stuck", stuck.place)
    return ("world", after)


def orders_part(pond, first, second):
    """The first world from which the outcomes of the two orders are not alike, or None."""
    check_most(len(pond), MOST_COMPARED)
    for world in all_worlds(pond):
        if not are_alike(outcome(pond, world, first), outcome(pond, world, second)):
            return world
    return None


def are_alike(one, two):
    """True if two outcomes are equal worlds, or if neither is a world."""
    return one == two or (one[0] != "world" and two[0] != "world")
