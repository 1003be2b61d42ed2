"""What is kept: whether the rules of a world lead out of a machine, and the words that are safe for some steps."""

from likehands.building import least_read
from likehands.images import before, choices_of, image_ways, track_of
from likehands.machines import both, either, end_marks, least, least_word, turned, without
from likehands.patterns import machine_of


def looked_at(world, machine):
    """Why a machine does not show that nothing bad comes, by the least words; or that it is kept."""
    letters, shape, rules, begin, bad = world
    held = least(machine)
    word = least_word(without(machine_of(letters, begin), held))
    if word is not None:
        return "begin", word
    for number, rule in enumerate(rules):
        other = least_lost(held, shape, rule)
        if other is not None:
            return "step", number, least_origin(held, shape, rule, other), other
    word = least_word(both(machine_of(letters, bad), held))
    if word is not None:
        return "bad", word
    return ("kept",)


def least_lost(machine, shape, rule):
    """The least word that a machine has not and that comes by a rule of one that it has; or None.

    The image is read along its several ways, with the machine beside it, so
    that it need not be made a machine, which may be far larger.
    """
    letters, table, stops = machine
    marks = end_marks(machine)
    firsts, ways, ended = image_ways(machine, shape, rule)

    def moves(key):
        number, state = key
        return [[(later, target) for later in column[number]] for column, target in zip(ways, table[state])]

    def is_end(key):
        number, state = key
        return ended[number] and not marks[state]

    return least_read(letters, [(number, 0) for number in firsts], moves, is_end)


def least_origin(machine, shape, rule, word):
    """The least word of a machine of which a word comes by a rule."""
    letters, table, stops = machine
    marks = end_marks(machine)
    starts, ends, arcs = track_of(letters, shape, rule)
    choices = choices_of(len(letters), arcs)
    wanted = [letters.index(letter) for letter in word]

    def moves(key):
        stage, state, at = key
        if at == len(wanted):
            return [[] for letter in letters]
        return [[(later, target, at + 1) for made, later in group if made == wanted[at]]
                for group, target in zip(choices[stage], table[state])]

    def is_end(key):
        stage, state, at = key
        return at == len(wanted) and stage in ends and marks[state]

    return least_read(letters, [(stage, 0, 0) for stage in starts], moves, is_end)


def safe_for(world, steps):
    """The machine of the words from which no row of at most so many steps leads to a word of bad."""
    letters, shape, rules, begin, bad = world
    broken = machine_of(letters, bad)
    for turn in range(steps):
        more = broken
        for rule in rules:
            more = either(more, before(broken, shape, rule))
        # Where one step leads to no other words, more steps do neither.
        if more == broken:
            break
        broken = more
    return turned(broken)
