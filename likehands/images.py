"""Images: what a rule makes of all the words of a machine, and the words of which it makes them."""

from likehands.building import built_of_ways, useful_ways
from likehands.machines import end_marks, least

# How far a step is told while a word is read from left to right. Of a rule of one hand: whether its place
# still lies ahead, and whether its guard wants some hand yet.
AHEAD_WANTING = 0
AHEAD = 1
BEHIND_WANTING = 2
BEHIND = 3
# Of a rule of two: the pair lies ahead, its first hand is read, it is read; in a ring the pair of the last place
# and the first one may have been chosen: nothing is read, the first place is, the last one is.
PAIR_AHEAD = 0
PAIR_BEGUN = 1
PAIR_BEHIND = 2
ROUND_AHEAD = 3
ROUND_BEGUN = 4
ROUND_CLOSED = 5


def image(machine, shape, rule):
    """The machine of the words that come by a step of a rule of words that a machine has."""
    firsts, ways, ended = image_ways(machine, shape, rule)
    return built_of_ways(machine[0], firsts, ways, ended)


def before(machine, shape, rule):
    """The machine of the words of which, by a step of a rule, a word comes that a machine has."""
    firsts, ways, ended = before_ways(machine, shape, rule)
    return built_of_ways(machine[0], firsts, ways, ended)


def image_ways(machine, shape, rule):
    """The image, read in several ways, as useful_ways tells them."""
    starts, ends, arcs = track_of(machine[0], shape, rule)
    turned_arcs = [(stage, new, old, later) for stage, old, new, later in arcs]
    return ways_by(machine, starts, ends, turned_arcs)


def before_ways(machine, shape, rule):
    """The words ahead of a step into a machine, read in several ways, as useful_ways tells them."""
    starts, ends, arcs = track_of(machine[0], shape, rule)
    return ways_by(machine, starts, ends, arcs)


def ways_by(machine, starts, ends, arcs):
    """The ways to read words while a machine reads what arcs make of them: (stage, read, made, stage behind)."""
    letters, table, stops = least(machine)
    marks = end_marks((letters, table, stops))
    choices = choices_of(len(letters), arcs)

    def moves(key):
        stage, state = key
        row = table[state]
        return [[(later, row[made]) for made, later in group] for group in choices[stage]]

    def is_end(key):
        stage, state = key
        return stage in ends and marks[state]

    return useful_ways([(stage, 0) for stage in starts], moves, is_end)


def choices_of(width, arcs):
    """For each stage, and in it for each column that may be read, the pairs of what is made and the stage behind."""
    choices = {}
    for stage, read, made, later in arcs:
        for known in (stage, later):
            if known not in choices:
                choices[known] = [[] for column in range(width)]
        choices[stage][read].append((made, later))
    return choices


def track_of(letters, shape, rule):
    """How a rule goes along a word: the stages that it begins in, those that it ends in, and its arcs.

    An arc is (stage, old, new, stage behind), old and new the columns of a
    hand's letter and of what becomes of it.
    """
    if rule[0] == "two":
        return track_of_two(letters, shape, rule)
    kind, x, y, more = rule
    change = (letters.index(x), letters.index(y))
    if kind == "call":
        turns = [(old, letters.index(letter)) for old, letter in enumerate(more)]
        return (AHEAD,), (BEHIND,), arcs_of_change(AHEAD, turns, change, BEHIND)
    if more is None:
        return (AHEAD,), (BEHIND,), arcs_of_change(AHEAD, kept_columns(letters), change, BEHIND)
    return track_of_guard(letters, change, more)


def kept_columns(letters):
    """The pairs of columns of hands that stay as they are."""
    return [(column, column) for column in range(len(letters))]


def arcs_of_change(stage, turns, change, later):
    """The arcs by which one hand changes and all others turn, from a stage to the one behind that hand."""
    old, new = change
    return stays(stage, turns) + [(stage, old, new, later)] + stays(later, turns)


def stays(stage, turns):
    """The arcs by which hands are passed at a stage."""
    return [(stage, old, new, stage) for old, new in turns]


def track_of_guard(letters, change, guard):
    """The track of a rule of one hand with a guard."""
    how, where, some = guard
    old, new = change
    ahead = passing(letters, AHEAD_WANTING, AHEAD, how, some, where != "right")
    behind = passing(letters, BEHIND_WANTING, BEHIND, how, some, where != "left")
    changes = [(AHEAD, old, new, BEHIND)]
    if how == "some":
        changes.append((AHEAD_WANTING, old, new, BEHIND_WANTING))
    start = AHEAD if how == "all" else AHEAD_WANTING
    return (start,), (BEHIND,), ahead + behind + changes


def passing(letters, wanting, stage, how, some, asked):
    """The arcs by which hands on one side of the changed one are passed; asked tells whether the guard looks there."""
    turns = kept_columns(letters)
    hits = [(column, column) for column, letter in enumerate(letters) if letter in some]
    if how == "all":
        return stays(stage, hits if asked else turns)
    if not asked:
        return stays(stage, turns) + stays(wanting, turns)
    misses = [turn for turn in turns if turn not in hits]
    return stays(stage, turns) + stays(wanting, misses) + [(wanting, old, new, stage) for old, new in hits]


def track_of_two(letters, shape, rule):
    """The track of a rule of two neighbours."""
    x, y, u, v = [letters.index(letter) for letter in rule[1:]]
    turns = kept_columns(letters)
    arcs = stays(PAIR_AHEAD, turns) + stays(PAIR_BEHIND, turns)
    arcs += [(PAIR_AHEAD, x, u, PAIR_BEGUN), (PAIR_BEGUN, y, v, PAIR_BEHIND)]
    if shape == "row":
        return (PAIR_AHEAD,), (PAIR_BEHIND,), arcs
    arcs += stays(ROUND_BEGUN, turns)
    arcs += [(ROUND_AHEAD, y, v, ROUND_BEGUN), (ROUND_BEGUN, x, u, ROUND_CLOSED)]
    return (PAIR_AHEAD, ROUND_AHEAD), (PAIR_BEHIND, ROUND_CLOSED), arcs
