"""Running an order from a world, statement by statement."""

from hedgejoin.deeds import cause_of, joined_world, plain_of
from hedgejoin.errors import OrderRefused, Stuck
from hedgejoin.fields import holder
from hedgejoin.mirror import paths_of
from hedgejoin.tree import do_meet


class Runner:
    """A world, and the plain deeds that an order has done up to now.

    The places are those of the statements. `held` has the lots that the variables
    hold; an inner `each` makes another such dict, so that the outer values return
    with its end.
    """

    def __init__(self, pond, world):
        self._pond = pond
        self._world = world
        self._done = []

    def result(self):
        """The pair of the world and the list of the deeds done."""
        return (self._world, list(self._done))

    def run_body(self, order, place, held):
        """Do the statements of the order, which stand in the body with this place."""
        for at, statement in enumerate(order):
            self._run_statement(statement, (*place, at), held)

    def _run_statement(self, statement, place, held):
        """Do one statement."""
        word = statement[0]
        if word == "join":
            self._do_deed(lot_of(statement[1], held), lot_of(statement[2], held), place)
        elif word == "clear":
            self._clear(lot_of(statement[1], held), place)
        elif word == "if":
            branch = 0 if self._holds(statement[1], place, held) else 1
            self.run_body(statement[2 + branch], (*place, branch), held)
        elif word == "while":
            self._run_while(statement, place, held)
        else:
            self._run_each(statement, place, held)

    def _run_while(self, statement, place, held):
        """Do the body again and again as long as the test holds."""
        _, test, body = statement
        while self._holds(test, place, held):
            many = len(self._done)
            self.run_body(body, (*place, 0), held)
            if len(self._done) == many:
                raise Stuck(place)

    def _run_each(self, statement, place, held):
        """Do the body for the first lot of each field that there is now."""
        _, variable, body = statement
        for lot in [field[0] for field in self._world]:
            self.run_body(body, (*place, 0), {**held, variable: lot})

    def _do_deed(self, x, y, place):
        """Do a deed, or raise OrderRefused."""
        cause = cause_of(self._pond, self._world, x, y)
        if cause is not None:
            raise OrderRefused(place, cause)
        self._done.append(plain_of(self._world, x, y))
        self._world = joined_world(self._pond, self._world, x, y)

    def _clear(self, gate, place):
        """Join all fields that the path of the gate meets."""
        self._check_lot(gate, place)
        path = holder(paths_of(self._pond, self._world), gate)
        firsts = [field[0] for field in self._world if do_meet(field, path)]
        for lot in firsts[1:]:
            self._do_deed(firsts[0], lot, place)

    def _check_lot(self, lot, place):
        """Raise OrderRefused if the pond has no such lot."""
        if lot not in self._pond:
            raise OrderRefused(place, ("unknown", lot))

    def _holds(self, test, place, held):
        """True if the test holds."""
        if test[0] == "not":
            return not self._holds(test[1], place, held)
        word, x, y = test[0], lot_of(test[1], held), lot_of(test[2], held)
        self._check_lot(x, place)
        self._check_lot(y, place)
        if word == "together":
            return y in holder(self._world, x)
        return cause_of(self._pond, self._world, x, y) is None


def lot_of(term, held):
    """The lot that the term stands for: the one that a variable holds, or the name itself."""
    return held.get(term, term)
