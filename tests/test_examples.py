"""The examples of the document, as they stand there."""

import doctest
import unittest

STORES = '''
    >>> from sharedunseen.stores import Store, renumbered
    >>> store = Store(3, ((("up", (1, 2, 0), (5, 0, 0)),), ()))
    >>> renumbered(store, (0, 2, 1)).operation("up")
    ('up', (2, 0, 1), (5, 0, 0))

    >>> from sharedunseen.matches import matches
    >>> matches(store, renumbered(store, (1, 2, 0)))
    ((1, 2, 0),)
    >>> ring = Store(3, ((("up", (1, 2, 0), (0, 0, 0)),), ()))
    >>> matches(ring, ring, most=2)
    ((0, 1, 2), (1, 2, 0))

    >>> from sharedunseen.beside import part_of, side_by_side
    >>> lamp = Store(2, ((), (("off", (0, 0), (0, 1)),)))
    >>> side_by_side(ring, lamp).operation("off")
    ('off', (0, 0, 2, 2, 4, 4), (0, 1, 0, 1, 0, 1))
    >>> part_of(lamp, (0,)).offices
    ((), (('off', (0,), (0,)),))

    >>> from sharedunseen.errors import InvalidText
    >>> from sharedunseen.texts import read_store, show_store
    >>> show_store(read_store(" states  2\\n office\\nup:  1/0 1/7\\noffice"))
    'states 2\\noffice\\nup: 1/0 1/7\\noffice'
    >>> try:
    ...     read_store("states 2\\noffice\\nup: 1/0 2/7")
    ... except InvalidText as error:
    ...     error.at
    24
'''

RUNS = '''
    >>> from sharedunseen.texts import read_store
    >>> from sharedunseen.runs import answers_of, count_runs, distances, passed, shortest_run
    >>> store = read_store("states 3\\noffice\\nup: 1/0 2/0 2/1\\noffice\\nzero: 0/0 0/1 0/2")
    >>> passed(store, 0, ("up", "up", "zero")), answers_of(store, 0, ("up", "up", "zero"))
    ((0, 1, 2, 0), (0, 0, 2))
    >>> distances(store, 1, (0,)), shortest_run(store, 1, 0), count_runs(store, 0, 0, 2)
    ((None, 0, 1), ('zero',), 2)

    >>> from sharedunseen.weavings import answers_of_weavings, count_exchanges, ends_of_weavings, weaving_at
    >>> runs = (("up", "up"), ("zero",))
    >>> weaving_at(runs, 1), count_exchanges(runs, ("up", "up", "zero"), ("zero", "up", "up"))
    (('up', 'zero', 'up'), 2)
    >>> ends_of_weavings(store, 0, runs), answers_of_weavings(store, 0, runs, 1, 0)
    (((0, 1), (1, 1), (2, 1)), (0, 1, 2))
'''

# The rows of the examples of chapters 5 and 6 that need only modules that are there.
NOTICED = '''
    >>> from sharedunseen.clashes import all_clashes
    >>> from sharedunseen.notices import noticed, soonest
    >>> from sharedunseen.steady import misled
    >>> from sharedunseen.texts import read_store
    >>> store = read_store("states 3\\noffice\\na: 0/0 2/0 2/1\\noffice\\nb: 1/0 1/0 2/0")
    >>> all_clashes(store), soonest(store, 0), soonest(store, 1)
    ((('a', 'b', 0, 'ends'),), 2, None)
    >>> noticed(store, 0, ("a", "b")), noticed(store, 0, ("b", "a", "a"))
    (('ends', 2, 1), ('answers', 2, 0))
    >>> from sharedunseen.clashes import ends_hold
    >>> from sharedunseen.steady import answers_hold
    >>> (ends_hold(store), answers_hold(store)), misled(store, 0)
    ((False, False), (0, 'b', ('a', 'a')))
'''

HOMES = '''
    >>> from sharedunseen.texts import read_store
    >>> from sharedunseen.homes import homes, meeting, crossing
    >>> store = read_store("states 4\\noffice\\nclear: 0/0 1/0 0/0 1/0\\nset: 3/0 2/0 2/0 3/0\\noffice\\nturn: 1/0 0/0 3/0 2/0")
    >>> homes(store, 0), homes(store, 1), meeting(store, 0, 3, (0,))
    ((0, 0, 0, 0), (0, 0, 1, 1), (2, 3))
    >>> crossing(store, 0, 2, (0,))
    (('set',), ('turn',))
    >>> from sharedunseen.clashes import all_clashes
    >>> all_clashes(store)
    ()
'''


class ExamplesTest(unittest.TestCase):

    def run_rows(self, rows):
        test = doctest.DocTestParser().get_doctest(rows, {}, "document", None, 0)
        told = []
        doctest.DocTestRunner().run(test, out=told.append)
        self.assertGreater(len(test.examples), 4)
        self.assertEqual("".join(told), "")

    def test_stores(self):
        self.run_rows(STORES)

    def test_runs(self):
        self.run_rows(RUNS)

    def test_noticed(self):
        self.run_rows(NOTICED)

    def test_homes(self):
        self.run_rows(HOMES)


if __name__ == "__main__":
    unittest.main()
