"""Machines that read words: which ones there are, how they are put together, and their words."""

from likehands.building import built, least_read, useful_ways

MOST_LETTERS = 5


def is_machine(thing):
    """Whether a thing, of any kind, is a machine."""
    if not isinstance(thing, tuple) or len(thing) != 3:
        return False
    letters, table, ends = thing
    return is_letters(letters) and is_table(table, len(letters)) and is_ends(ends, len(table))


def is_letters(thing):
    """Whether a thing is a text of one to five unlike small letters, rising."""
    if not isinstance(thing, str) or len(thing) < 1 or len(thing) > MOST_LETTERS:
        return False
    return all(["a" <= sign <= "z" for sign in thing]) and rises(thing)


def rises(row):
    """Whether each part of a text or a tuple is greater than the one ahead of it, so that none stands twice."""
    return all([row[at] < row[at + 1] for at in range(len(row) - 1)])


def is_table(thing, width):
    """Whether a thing is one or more rows of so many states' numbers each."""
    if not isinstance(thing, tuple) or len(thing) == 0:
        return False
    return all([is_row(row, width, len(thing)) for row in thing])


def is_row(thing, width, many):
    """Whether a thing is a row of so many numbers of many states."""
    return isinstance(thing, tuple) and len(thing) == width and all([is_state(part, many) for part in thing])


def is_ends(thing, many):
    """Whether a thing is a tuple of numbers of many states, rising, perhaps of none."""
    return isinstance(thing, tuple) and all([is_state(part, many) for part in thing]) and rises(thing)


def is_state(thing, many):
    """Whether a thing is the number of one of many states."""
    return isinstance(thing, int) and not isinstance(thing, bool) and 0 <= thing < many


def has(machine, word):
    """Whether a machine has a word; one with another letter than the machine's it has not."""
    letters, table, ends = machine
    state = 0
    for letter in word:
        column = letters.find(letter)
        if column < 0:
            return False
        state = table[state][column]
    return state in ends


def both(one, other):
    """The machine of the words that both machines have."""
    return paired(one, other, ((True, True),))


def either(one, other):
    """The machine of the words that one of the machines has at least."""
    return paired(one, other, ((True, True), (True, False), (False, True)))


def without(one, other):
    """The machine of the words that the first machine has and the second one has not."""
    return paired(one, other, ((True, False),))


def turned(machine):
    """The machine of the words that a machine has not."""
    return remade(machine, False)


def least(machine):
    """The least machine of the words that a machine has."""
    return remade(machine, True)


def remade(machine, wanted):
    """The least machine of the words of which it is wanted (True or False) that a machine has them."""
    letters, table, ends = machine
    marks = end_marks(machine)

    def follow(state):
        return table[state]

    def is_end(state):
        return marks[state] == wanted

    return built(letters, 0, follow, is_end)


def paired(one, other, wanted):
    """The least machine of the words for which the truths (the first has it, the second has it) are wanted ones."""
    first_marks = end_marks(one)
    second_marks = end_marks(other)
    first_table = one[1]
    second_table = other[1]

    def follow(pair):
        first, second = pair
        return list(zip(first_table[first], second_table[second]))

    def is_end(pair):
        first, second = pair
        return (first_marks[first], second_marks[second]) in wanted

    return built(one[0], (0, 0), follow, is_end)


def end_marks(machine):
    """For each state of a machine whether it is one of the ends; to ask a long tuple each time would be slow."""
    letters, table, ends = machine
    marks = [False for row in table]
    for state in ends:
        marks[state] = True
    return marks


def least_word(machine):
    """The least word that a machine has, or None."""
    letters, table, ends = machine
    marks = end_marks(machine)

    def moves(state):
        return [[target] for target in table[state]]

    def is_end(state):
        return marks[state]

    return least_read(letters, [0], moves, is_end)


def ways_of(machine):
    """The ways along which a machine reads the words that it has, as useful_ways tells them."""
    letters, table, ends = machine
    marks = end_marks(machine)

    def moves(state):
        return [[target] for target in table[state]]

    def is_end(state):
        return marks[state]

    return useful_ways([0], moves, is_end)


def how_many(machine, length):
    """How many words of a length a machine has."""
    letters, table, ends = machine
    if length < 0:
        return 0
    counts = {0: 1}
    for turn in range(length):
        later = {}
        for state in counts:
            for target in table[state]:
                later[target] = later.get(target, 0) + counts[state]
        counts = later
    return sum([counts.get(state, 0) for state in ends])


def words_of(machine, length):
    """The list of the words of a length that a machine has, rising."""
    letters, table, ends = machine
    if length < 0:
        return []
    hopes = hopes_of(machine, length)
    begun = [("", 0)] if hopes[length][0] else []
    for left in range(length - 1, -1, -1):
        longer = []
        for word, state in begun:
            for letter, target in zip(letters, table[state]):
                if hopes[left][target]:
                    longer.append((word + letter, target))
        begun = longer
    return [word for word, state in begun]


def hopes_of(machine, length):
    """For each number of letters up to a length, and for each state, whether so many may lead from it to an end.

    So words of which nothing can come are not begun, and a list takes no longer than it is long.
    """
    hopes = [end_marks(machine)]
    for turn in range(length):
        nearer = hopes[turn]
        hopes.append([any([nearer[target] for target in row]) for row in machine[1]])
    return hopes
