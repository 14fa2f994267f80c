"""Reading the text of an order, word by word."""

from hedgejoin.errors import BadText
from hedgejoin.shore import is_name

CAPITALS = "ABCDEFGHIJKLMNOPQRSTUVWXYZ"


class Block:
    """A statement whose bodies are being read. The whole text is a block without a word."""

    def __init__(self, word, head):
        self.word = word
        self.head = head
        self.bodies = [[]]


class Reader:
    """The words of a text, and how far they have been read.

    The blocks that have not ended are kept in a list, the innermost one last, so
    that a text with very many of them needs no deep recursion.
    """

    def __init__(self, words):
        self._words = words
        self._at = 0
        self._blocks = [Block("", None)]

    def read_all(self):
        """The order that the words write."""
        while self._at < len(self._words):
            self._read_word()
        if len(self._blocks) > 1:
            raise BadText(self._at)
        return tuple(self._blocks[0].bodies[0])

    def _read_word(self):
        """Read one statement, the beginning of one that has bodies, `else` or `end`."""
        word = self._take()
        if word in ("join", "clear"):
            self._add((word, *self._take_terms(2 if word == "join" else 1)))
        elif word in ("if", "while", "until", "each"):
            self._begin(word)
        elif word == "else" and self._blocks[-1].word == "if" and len(self._blocks[-1].bodies) == 1:
            self._blocks[-1].bodies.append([])
        elif word == "end" and len(self._blocks) > 1:
            self._end()
        else:
            raise BadText(self._at - 1)

    def _take(self):
        """The next word."""
        if self._at == len(self._words):
            raise BadText(self._at)
        self._at = self._at + 1
        return self._words[self._at - 1]

    def _take_one_of(self, words):
        """The next word, which must be one of these."""
        word = self._take()
        if word not in words:
            raise BadText(self._at - 1)
        return word

    def _take_terms(self, many):
        """The next words, which must be names or variables of surrounding blocks."""
        variables = [block.head for block in self._blocks if block.word == "each"]
        terms = []
        for _ in range(many):
            term = self._take()
            if not is_name(term) and term not in variables:
                raise BadText(self._at - 1)
            terms.append(term)
        return terms

    def _take_variable(self):
        """The next word, which must be a variable."""
        word = self._take()
        if len(word) != 1 or word not in CAPITALS:
            raise BadText(self._at - 1)
        return word

    def _take_test(self):
        """The test that the next words write."""
        word = self._take_one_of(("together", "open", "not"))
        if word == "not":
            inner = self._take_one_of(("together", "open"))
            return ("not", (inner, *self._take_terms(2)))
        return (word, *self._take_terms(2))

    def _add(self, statement):
        """Add a statement to the innermost body."""
        self._blocks[-1].bodies[-1].append(statement)

    def _begin(self, word):
        """Begin the statement with this word, up to its `do`."""
        head = self._take_variable() if word == "each" else self._take_test()
        self._take_one_of(("do",))
        if word == "until":
            head = head[1] if head[0] == "not" else ("not", head)
        self._blocks.append(Block("while" if word == "until" else word, head))

    def _end(self):
        """End the innermost statement that has bodies."""
        block = self._blocks.pop()
        bodies = [tuple(body) for body in block.bodies]
        if block.word == "if" and len(bodies) == 1:
            bodies.append(())
        self._add((block.word, block.head, *bodies))
