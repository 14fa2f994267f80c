"""The examples of the document, as they stand there."""

import doctest
import unittest

EXAMPLES = {
    "shore.py": '''
>>> from hedgejoin.shore import span
>>> span(5, 3, 1)
[3, 4, 0, 1]
''',
    "partings.py": '''
>>> from hedgejoin.ponds import Pond
>>> from hedgejoin.partings import code, parting_of
>>> pond = Pond(["c", "a", "b"])
>>> parting_of(pond, [["b", "c"]])
(('c', 'b'), ('a',))
>>> code(pond, (("c", "b"), ("a",)))
(0, 1, 0)
''',
}


class TestExamples(unittest.TestCase):
    def test_examples(self):
        for place, text in EXAMPLES.items():
            with self.subTest(place=place):
                example = doctest.DocTestParser().get_doctest(text, {}, place, place, 0)
                told = []
                runner = doctest.DocTestRunner(verbose=False)
                result = runner.run(example, out=told.append)
                self.assertEqual(result.failed, 0, "".join(told))
                self.assertGreater(result.attempted, 1)


if __name__ == "__main__":
    unittest.main()
