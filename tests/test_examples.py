"""The examples of the document, as they stand there."""

import doctest
import unittest

STORES = '''
    >>> from sharedunseen.stores import Store, renumbered
    >>> store = Store(3, ((("up", (1, 2, 0), (5, 0, 0)),), ()))
    >>> renumbered(store, (0, 2, 1)).operation("up")
    ('up', (2, 0, 1), (5, 0, 0))

    >>> from sharedunseen.matches import matches
    >>> matches(store, renumbered(store, (1, 2, 0)))
    ((1, 2, 0),)
    >>> ring = Store(3, ((("up", (1, 2, 0), (0, 0, 0)),), ()))
    >>> matches(ring, ring, most=2)
    ((0, 1, 2), (1, 2, 0))

    >>> from sharedunseen.beside import part_of, side_by_side
    >>> lamp = Store(2, ((), (("off", (0, 0), (0, 1)),)))
    >>> side_by_side(ring, lamp).operation("off")
    ('off', (0, 0, 2, 2, 4, 4), (0, 1, 0, 1, 0, 1))
    >>> part_of(lamp, (0,)).offices
    ((), (('off', (0,), (0,)),))

    >>> from sharedunseen.errors import InvalidText
    >>> from sharedunseen.texts import read_store, show_store
    >>> show_store(read_store(" states  2\\n office\\nup:  1/0 1/7\\noffice"))
    'states 2\\noffice\\nup: 1/0 1/7\\noffice'
    >>> try:
    ...     read_store("states 2\\noffice\\nup: 1/0 2/7")
    ... except InvalidText as error:
    ...     error.at
    24
'''

RUNS = '''
    >>> from sharedunseen.texts import read_store
    >>> from sharedunseen.runs import answers_of, count_runs, distances, passed, shortest_run
    >>> store = read_store("states 3\\noffice\\nup: 1/0 2/0 2/1\\noffice\\nzero: 0/0 0/1 0/2")
    >>> passed(store, 0, ("up", "up", "zero")), answers_of(store, 0, ("up", "up", "zero"))
    ((0, 1, 2, 0), (0, 0, 2))
    >>> distances(store, 1, (0,)), shortest_run(store, 1, 0), count_runs(store, 0, 0, 2)
    ((None, 0, 1), ('zero',), 2)

    >>> from sharedunseen.weavings import answers_of_weavings, count_exchanges, ends_of_weavings, weaving_at
    >>> runs = (("up", "up"), ("zero",))
    >>> weaving_at(runs, 1), count_exchanges(runs, ("up", "up", "zero"), ("zero", "up", "up"))
    (('up', 'zero', 'up'), 2)
    >>> ends_of_weavings(store, 0, runs), answers_of_weavings(store, 0, runs, 1, 0)
    (((0, 1), (1, 1), (2, 1)), (0, 1, 2))
'''

OVERVIEW = '''
    >>> from sharedunseen.texts import read_store
    >>> from sharedunseen.court import court
    >>> from sharedunseen.names import names_of
    >>> store = read_store("states 2\\noffice\\nflip: 1/0 0/0\\noffice\\nturn: 1/5 0/5")
    >>> court(store).__class__.__name__
    'Unseen'
    >>> names_of(store).owns
    (0, 0)
'''

NOTICED = '''
    >>> from sharedunseen.texts import read_store
    >>> from sharedunseen.clashes import all_clashes
    >>> from sharedunseen.court import sort_of
    >>> from sharedunseen.notices import noticed, soonest
    >>> from sharedunseen.steady import misled
    >>> store = read_store("states 3\\noffice\\na: 0/0 2/0 2/1\\noffice\\nb: 1/0 1/0 2/0")
    >>> all_clashes(store), soonest(store, 0), soonest(store, 1)
    ((('a', 'b', 0, 'ends'),), 2, None)
    >>> noticed(store, 0, ("a", "b")), noticed(store, 0, ("b", "a", "a"))
    (('ends', 2, 1), ('answers', 2, 0))
    >>> sort_of(store), misled(store, 0)
    ((False, False), (0, 'b', ('a', 'a')))
'''

HOMES = '''
    >>> from sharedunseen.texts import read_store
    >>> from sharedunseen.homes import homes, meeting, crossing
    >>> from sharedunseen.undoing import undo_run, powers_undo, undo_parts, undoers
    >>> store = read_store("states 4\\noffice\\nclear: 0/0 1/0 0/0 1/0\\nset: 3/0 2/0 2/0 3/0\\noffice\\nturn: 1/0 0/0 3/0 2/0")
    >>> homes(store, 0), homes(store, 1), meeting(store, 0, 3, (0,))
    ((0, 0, 0, 0), (0, 0, 1, 1), (2, 3))
    >>> undo_run(store, 0, "set"), powers_undo(store, 0, "set")
    (('clear', 'set', 'clear'), (('set', 'clear'), 2))
    >>> undoers(store, 0, "set"), undoers(store, 0, "turn"), crossing(store, 0, 2, (0,))
    ((0,), (0, 1), (('set',), ('turn',)))
    >>> undo_parts(store, 0, ("set", "turn", "clear"))
    (('set', 'clear'), ('turn',))
'''

VIEWS = '''
    >>> from sharedunseen.texts import read_store
    >>> from sharedunseen.views import blind_view, blind_view_at, count_blind_views, refinement
    >>> store = read_store("states 4\\noffice\\nup: 1/0 1/0 3/0 3/0\\noffice\\nask: 0/0 1/0 2/9 3/9")
    >>> blind_view(store, (0,)), blind_view(store, (1,)), refinement((0, 0, 1, 1), (0, 1, 0, 1))
    ((0, 0, 1, 1), (0, 1, 2, 3), (0, 1, 2, 3))
    >>> count_blind_views(store, (0,)), blind_view_at(store, (1,), 14)
    (2, (0, 1, 2, 3))

    >>> from sharedunseen.own import least_store, least_view, own_view, telling_run
    >>> own_view(store, 0), own_view(store, 1), least_view(store)
    ((0, 1, 2, 3), (0, 0, 1, 1), (0, 0, 1, 1))
    >>> telling_run(store, 1, 3), telling_run(store, 0, 1), least_store(store, (1,)).offices
    (('ask',), None, ((), (('ask', (0, 1), (0, 9)),)))
'''

GROUP = '''
    >>> from sharedunseen.cards import pack
    >>> from sharedunseen.shared import measure, shared_group
    >>> measure(pack(3)), shared_group(pack(3)).table[3]
    ((1, 6, 1), (3, 5, 1, 4, 0, 2))
'''

MADE = '''
    >>> from sharedunseen.forms import made_names
    >>> from sharedunseen.names import store_of
    >>> names = made_names(((0, 1), (1, 0)), {"a": ((1, 0), (0, 1))}, {"b": ((1, 0),)}, {"a": (5, 6), "b": (0,)})
    >>> store_of(names).operation("a")
    ('a', (2, 3, 1, 0), (5, 5, 6, 6))
'''

CUTS = '''
    >>> from sharedunseen.names import names_of
    >>> from sharedunseen.texts import read_store
    >>> from sharedunseen.cuts import cut_ends, stand_ins
    >>> from sharedunseen.lengths import ends_by, settling
    >>> store = read_store("states 4\\noffice\\nclear: 0/0 1/0 0/0 1/0\\nset: 3/0 2/0 2/0 3/0\\noffice\\nturn: 1/5 0/5 3/5 2/5")
    >>> cut_ends(names_of(store), 0, ("set",), ("turn",)), stand_ins(store, 0, ("turn", "set"), 3)
    ((3, 1, 2), (('set',), ('turn',)))
    >>> ends_by(store, 0, (1, 1)), settling(store, 0)
    ((1, 2), (3, 1))
'''

MERGED = '''
    >>> from sharedunseen.texts import read_store
    >>> from sharedunseen.merges import join_ends, merged, outcomes
    >>> from sharedunseen.notes import count_ends, ends_suffice, island_measure, least_notes
    >>> bit = read_store("states 2\\noffice\\na: 1/0 0/0\\noffice\\nb: 1/0 0/0\\noffice\\nc: 1/0 0/0")
    >>> merged(bit, 0, (1, 1, 0)), outcomes(bit, (1, 1, 0)), ends_suffice(bit), count_ends(bit)
    (0, (0,), True, 8)
    >>> join_ends(bit, 0, (1, 1, 0), 1, 2)
    (((0,), (1, 2)), (1, 1))
    >>> two = ((0,), (1, 2))
    >>> island_measure(bit, islands=two), outcomes(bit, (1, 1), islands=two), least_notes(bit, islands=two)
    ((1, 2, 2), (0, 1), (0, 1))
'''

LOOKS = '''
    >>> from sharedunseen.texts import read_store
    >>> from sharedunseen.islands import explanation
    >>> from sharedunseen.looks import told_at_once
    >>> text = "states 4\\noffice\\nflip: 2/0 3/0 0/0 1/0\\nlook: 0/0 1/1 2/0 3/1\\noffice\\n"
    >>> store = read_store(text + "turn: 1/0 0/0 3/0 2/0\\nsee: 0/0 1/0 2/1 3/1")
    >>> told_at_once(store, (0,), (0, 0, 1, 2))
    (0, 0, 1, 1)
    >>> explanation(store, 0, ((0,), (1,)), (("flip",), ("turn", "see")))
    ('turn', 'see', 'flip')
'''

GIVEN = '''
    >>> from sharedunseen.texts import read_store
    >>> from sharedunseen.letin import count_given, given_goals
    >>> from sharedunseen.fuller import settled
    >>> store = read_store("states 2\\noffice\\noffice\\nflip: 1/0 0/0")
    >>> given_goals(store, 0), given_goals(store, 1)
    (((0, 1),), ((0, 1), (0, 1)))
    >>> [count_given(settled(store, order), 1) for order in ((0, 1), (1, 0))]
    [2, 4]
'''


class ExamplesTest(unittest.TestCase):

    def run_rows(self, rows):
        test = doctest.DocTestParser().get_doctest(rows, {}, "document", None, 0)
        told = []
        doctest.DocTestRunner().run(test, out=told.append)
        self.assertGreater(len(test.examples), 2)
        self.assertEqual("".join(told), "")

    def test_overview(self):
        self.run_rows(OVERVIEW)

    def test_stores(self):
        self.run_rows(STORES)

    def test_runs(self):
        self.run_rows(RUNS)

    def test_noticed(self):
        self.run_rows(NOTICED)

    def test_homes(self):
        self.run_rows(HOMES)

    def test_views(self):
        self.run_rows(VIEWS)

    def test_group(self):
        self.run_rows(GROUP)

    def test_made(self):
        self.run_rows(MADE)

    def test_cuts(self):
        self.run_rows(CUTS)

    def test_merged(self):
        self.run_rows(MERGED)

    def test_looks(self):
        self.run_rows(LOOKS)

    def test_given(self):
        self.run_rows(GIVEN)


if __name__ == "__main__":
    unittest.main()
