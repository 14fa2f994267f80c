"""The examples of the document, as they stand there."""

import doctest
import unittest

EXAMPLES = {
    "shore.py": '''
>>> from hedgejoin.shore import span
>>> span(5, 3, 1)
[3, 4, 0, 1]
''',
    "partings.py": '''
>>> from hedgejoin.ponds import Pond
>>> from hedgejoin.partings import code, parting_of
>>> pond = Pond(["c", "a", "b"])
>>> parting_of(pond, [["b", "c"]])
(('c', 'b'), ('a',))
>>> code(pond, (("c", "b"), ("a",)))
(0, 1, 0)
''',
    "moves.py": '''
>>> from hedgejoin.moves import Likeness
>>> (Likeness(5, shift=1) * Likeness(5, shift=3, flipped=True)).key
(4, True)
>>> (~Likeness(5, shift=1)).key
(4, False)
''',
    "point 21": '''
>>> from hedgejoin.ponds import Pond
>>> from hedgejoin.rows import ways_at
>>> pond = Pond(["a", "b", "c"])
>>> for way in ways_at(pond, (("a",), ("b",), ("c",)), [("a", "b"), ("b", "c")], 0): print(way)
(('a', 'b'), ('a', 'c'))
(('a', 'c'), ('a', 'b'))
(('b', 'c'), ('a', 'b'))
''',
    "deeds.py": '''
>>> from hedgejoin.ponds import Pond
>>> from hedgejoin.deeds import deeds, refused_deeds
>>> pond = Pond(["a", "b", "c", "d"], strifes=[("a", "b")])
>>> world = (("a", "c"), ("b",), ("d",))
>>> deeds(pond, world)
[('a', 'd')]
>>> refused_deeds(pond, world)
[(('a', 'b'), ('strife', ('a', 'b'))), (('b', 'd'), ('crossed', ('a', 'c')))]
''',
    "point 23": '''
>>> from hedgejoin.ponds import Pond
>>> from hedgejoin.mirror import mirror
>>> pond = Pond(["a", "b", "c"])
>>> mirror(pond, (("a", "b"), ("c",)))
(('a',), ('b', 'c'))
>>> mirror(pond, (("a",), ("b", "c")))
(('a', 'c'), ('b',))
''',
    "mirror.py": '''
>>> from hedgejoin.ponds import Pond
>>> from hedgejoin.mirror import fields_at, mirror
>>> pond = Pond(["a", "b", "c", "d"])
>>> world = (("a", "c"), ("b",), ("d",))
>>> mirror(pond, world)
(('a', 'b'), ('c', 'd'))
>>> fields_at(pond, world, "d")
[('a', 'c'), ('d',)]
''',
    "roads.py": '''
>>> from hedgejoin.ponds import Pond
>>> from hedgejoin.roads import answer
>>> pond = Pond(["a", "b", "c", "d"])
>>> start = (("a",), ("b", "d"), ("c",))
>>> answer(pond, start, (("a", "b", "c", "d"),))
('history', (('a', 'b'), ('a', 'c')))
>>> answer(pond, start, (("a", "c"), ("b", "d")))
('crossing', ('a', 'b', 'c', 'd'))
>>> answer(pond, start, (("a", "b"), ("c", "d")))
('parted', ('b', 'd'))
''',
    "counts.py": '''
>>> from hedgejoin.counts import count_by_sizes, count_worlds
>>> count_worlds(4)
14
>>> count_worlds(4, fields=2)
6
>>> count_by_sizes([2, 2])
2
''',
    "smalls.py": '''
>>> from hedgejoin.ponds import Pond
>>> from hedgejoin.smalls import inner_paths, small_ponds
>>> pond = Pond(["a", "b", "c", "d", "e"])
>>> lower = (("a",), ("b", "d"), ("c",), ("e",))
>>> upper = (("a", "b", "c", "d"), ("e",))
>>> inner_paths(pond, lower, upper)
(('a', 'd'), ('b', 'c'), ('e',))
>>> small_ponds(pond, lower, upper)
[('a', 'b'), ('b', 'c'), ('e',)]
''',
    "bridges.py": '''
>>> from hedgejoin.ponds import Pond
>>> from hedgejoin.bridges import kin_distance, sorting_bridge
>>> pond = Pond(["a", "b", "c", "d"])
>>> lower = (("a",), ("b",), ("c",), ("d",))
>>> upper = (("a", "b"), ("c", "d"))
>>> first = [("c", "d"), ("a", "b")]
>>> sorting_bridge(pond, lower, upper, first)
[(0, 1)]
>>> kin_distance(pond, lower, upper, first, [("b", "a"), ("c", "d")])
1
''',
    "commons.py": '''
>>> from hedgejoin.ponds import Pond
>>> from hedgejoin.commons import close, is_why
>>> pond = Pond(["a", "b", "c", "d", "e"])
>>> close(pond, (("a", "c"), ("b", "d"), ("e",)))
(('a', 'b', 'c', 'd'), ('e',))
>>> reasons = [("given", 0, "a", "c"), ("given", 0, "b", "d"), ("crossed", 0, 1, "c", "b")]
>>> is_why(pond, [(("a", "c"), ("b", "d"), ("e",))], "b", "c", reasons)
True
''',
    "strifes.py": '''
>>> from hedgejoin.ponds import Pond
>>> from hedgejoin.strifes import costly_deeds, row_counts
>>> pond = Pond(["a", "b", "c", "d"], strifes=[("a", "b"), ("c", "d")])
>>> singles = (("a",), ("b",), ("c",), ("d",))
>>> row_counts(pond, singles)
[1, 4, 2]
>>> costly_deeds(pond, singles)
[(('a', 'c'), 3), (('b', 'd'), 3)]
''',
    "pieces.py": '''
>>> from hedgejoin.ponds import Pond
>>> from hedgejoin.pieces import arcs, gaps
>>> pond = Pond(["a", "b", "c", "d", "e"])
>>> arcs(pond, ["d", "b"])
[('c', 'd'), ('e', 'a', 'b')]
>>> gaps(pond, ["b", "c"])
[('d', 'e', 'a')]
''',
    "orders.py": '''
>>> from hedgejoin.ponds import Pond
>>> from hedgejoin.orders import format_order, parse_order, run_order
>>> order = parse_order("each A do if open a A do join a A end end")
>>> order
(('each', 'A', (('if', ('open', 'a', 'A'), (('join', 'a', 'A'),), ()),)),)
>>> format_order(parse_order("until not together a b do clear a end"))
'while together a b do clear a end'
>>> pond = Pond(["a", "b", "c"], strifes=[("b", "c")])
>>> run_order(pond, (("a",), ("b",), ("c",)), order)
((('a', 'b'), ('c',)), [('a', 'b')])
''',
    "book.py": '''
>>> from hedgejoin.ponds import Pond
>>> from hedgejoin.book import Book, audit
>>> book = Book(Pond(["a", "b", "c"]))
>>> book.come("d", after="a")
0
>>> book.deed("c", "a")
1
>>> book.world
(('a', 'c'), ('d',), ('b',))
>>> book.history()
[('a', 'c')]
>>> audit(Pond(["a", "b"]), (("a",), ("b",)), [("lay", "a", "b"), ("deed", "a", "b")])
1
''',
}


class TestExamples(unittest.TestCase):
    def test_examples(self):
        for place, text in EXAMPLES.items():
            with self.subTest(place=place):
                example = doctest.DocTestParser().get_doctest(text, {}, place, place, 0)
                told = []
                runner = doctest.DocTestRunner(verbose=False)
                result = runner.run(example, out=told.append)
                self.assertEqual(result.failed, 0, "".join(told))
                self.assertGreater(result.attempted, 1)


if __name__ == "__main__":
    unittest.main()
