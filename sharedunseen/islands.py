"""Islands: offices that share a copy, and single stores that explain the answers of a cut."""

from sharedunseen.checks import is_run_of
from sharedunseen.errors import InvalidNumber, InvalidRun
from sharedunseen.kinds import is_lot
from sharedunseen.runs import answers_of, check_state
from sharedunseen.weavings import narrow_grid, weaving_owners


def check_islands(store, islands):
    """Raises unless any value is a tuple of islands."""
    if not isinstance(islands, tuple) or len(islands) == 0:
        raise InvalidNumber("islands")
    taken = {}
    for lot in islands:
        if not is_lot(lot, len(store.offices)) or len(lot) == 0:
            raise InvalidNumber("islands")
        if [office for office in lot if office in taken]:
            raise InvalidNumber("islands")
        for office in lot:
            taken[office] = True


def check_cut(store, state, islands, runs):
    """Raises unless any values are a state, islands, and a run of each island's offices."""
    check_state(store, state)
    check_islands(store, islands)
    if not isinstance(runs, tuple) or len(runs) != len(islands):
        raise InvalidRun(-1)
    for at, run in enumerate(runs):
        if not is_run_of(store, run, islands[at]):
            raise InvalidRun(at)


def island_answers(store, state, islands, runs):
    """The answers of the run of each island, done alone."""
    check_cut(store, state, islands, runs)
    return tuple([answers_of(store, state, run) for run in runs])


def explains(store, state, islands, runs, value):
    """Whether any value is a weaving of the runs that gives the answers of the cut."""
    told = island_answers(store, state, islands, runs)
    try:
        owners = weaving_owners(runs, value)
    except InvalidRun:
        return False
    found = [[] for _ in runs]
    for owner, answer in zip(owners, answers_of(store, state, value)):
        found[owner].append(answer)
    return tuple([tuple(answers) for answers in found]) == told


def fitting_steps(grid, told, cell, here):
    """The steps from a cell that give at a state the answers of the cut, run by run."""
    found = []
    for number, row in enumerate(grid.rows):
        place = grid.place(cell, number)
        if place < len(row) and row[place][2][here] == told[number][place]:
            found.append((row[place], cell + grid.strides[number]))
    return found


def rest_counts(grid, told, state):
    """For each cell and each state reached there how many rests of weavings give the answers of the cut."""
    reached = grid.forward(state)
    counts = [{} for _ in range(grid.many)]
    counts[-1] = {end: 1 for end in reached[-1]}
    for cell in reversed(range(grid.many - 1)):
        for here in reached[cell]:
            steps = fitting_steps(grid, told, cell, here)
            counts[cell][here] = sum([counts[further][operation[1][here]] for operation, further in steps])
    return counts


def explanation(store, state, islands, runs):
    """The first weaving that gives the answers of the cut, or None."""
    told = island_answers(store, state, islands, runs)
    grid = narrow_grid(store, runs)
    counts = rest_counts(grid, told, state)
    if counts[0][state] == 0:
        return None
    names = []
    cell = 0
    while cell < grid.many - 1:
        fitting = [(operation, further) for operation, further in fitting_steps(grid, told, cell, state)
                   if counts[further][operation[1][state]] > 0]
        operation, cell = fitting[0]
        names.append(operation[0])
        state = operation[1][state]
    return tuple(names)


def count_explanations(store, state, islands, runs):
    """The number of the weavings that give the answers of the cut."""
    told = island_answers(store, state, islands, runs)
    return rest_counts(narrow_grid(store, runs), told, state)[0][state]
