"""All weavings of some runs at once: a cell for each tuple of places in the runs.

Cells are numbered so that every step, the next operation of one run, leads to a greater number.
"""

from sharedunseen.stores import operations_of


class Grid:
    """The cells of the runs of all offices of a store."""

    def __init__(self, store, runs):
        table = {operation[0]: operation for operation in operations_of(store)}
        self.rows = [[table[name] for name in run] for run in runs]
        self.strides = []
        self.many = 1
        for run in reversed(runs):
            self.strides.append(self.many)
            self.many *= len(run) + 1
        self.strides = list(reversed(self.strides))

    def place(self, cell, office):
        """How many operations of an office are done in a cell."""
        return cell // self.strides[office] % (len(self.rows[office]) + 1)

    def steps(self, cell):
        """A list of pairs of the next operation of an office and the cell behind it, office by office."""
        found = []
        for office, row in enumerate(self.rows):
            place = self.place(cell, office)
            if place < len(row):
                found.append((row[place], cell + self.strides[office]))
        return found

    def forward(self, state):
        """For each cell a dict of the states to which weavings lead there, with their numbers."""
        counts = [{} for _ in range(self.many)]
        counts[0][state] = 1
        for cell in range(self.many):
            reached = list(counts[cell].items())
            for operation, further in self.steps(cell):
                for here, many in reached:
                    there = operation[1][here]
                    counts[further][there] = counts[further].get(there, 0) + many
        return counts

    def backward(self, goal):
        """For each cell a dict of the states from which the rest of some weaving leads to `goal`."""
        good = [{} for _ in range(self.many)]
        good[-1][goal] = True
        for cell in reversed(range(self.many)):
            for operation, further in self.steps(cell):
                for here, there in enumerate(operation[1]):
                    if there in good[further]:
                        good[cell][here] = True
        return good
