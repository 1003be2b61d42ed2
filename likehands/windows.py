"""Windows: signs that stand one behind the other in words with marks round them, and the machines of such lists."""

from likehands.building import built, explored
from likehands.machines import ways_of

# What stands ahead of a word and behind it, so that windows tell where it begins and ends.
FRONT = "^"
BACK = "$"


def windows_of(machine, size):
    """The windows of a size of the words that a machine has, rising by their signs."""
    firsts, ways, ended = ways_of(machine)
    return windows_of_ways(machine[0], firsts, ways, ended, size)


def windows_of_ways(letters, firsts, ways, ended, size):
    """The windows of the words that are read along ways, as useful_ways tells them, rising.

    All of these lie between a start and an end, so each letter that is read
    behind some signs stands behind them in a word.
    """

    def moves(key):
        number, held = key
        return [[(later, slid(held, letter)) for later in column[number]] for letter, column in zip(letters, ways)]

    keys, rows = explored([(number, FRONT * (size - 1)) for number in firsts], moves)
    windows = {}
    for (number, held), row in zip(keys, rows):
        for letter, group in zip(letters, row):
            if len(group) > 0:
                windows[held + letter] = True
        if ended[number]:
            windows.update({window: True for window in last_windows(held, size)})
    return sorted(windows)


def slid(held, letter):
    """The signs that count behind one more letter, told those that counted ahead of it: as many of the newest ones."""
    return (held + letter)[1:]


def last_windows(held, size):
    """The windows that reach beyond the end of a word, told its last signs, one less than the size."""
    signs = held + BACK * (size - 1)
    return [signs[at:at + size] for at in range(size - 1)]


def window_machine(letters, windows, size):
    """The machine of the words all of whose windows of a size are in a list."""
    known = {window: True for window in windows}

    def follow(held):
        # None stands for a word with a window that is not known.
        return [slid(held, letter) if held is not None and held + letter in known else None for letter in letters]

    def is_end(held):
        return held is not None and all([window in known for window in last_windows(held, size)])

    return built(letters, FRONT * (size - 1), follow, is_end)
