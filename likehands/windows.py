"""Windows: signs that stand one behind the other in words with marks round them, and the machines of such lists."""

from likehands.building import built, unseen
from likehands.machines import ways_of

# What stands ahead of a word and behind it, so that windows tell where it begins and ends.
FRONT = "^"
BACK = "$"


def windows_of(machine, size):
    """The windows of a size of the words that a machine has, rising by their signs."""
    firsts, ways, ended = ways_of(machine)
    return windows_of_ways(machine[0], firsts, ways, ended, size)


def windows_of_ways(letters, firsts, ways, ended, size):
    """The windows of the words that are read along ways, as useful_ways tells them, rising.

    All of these lie between a start and an end, so each letter that is read
    behind some signs stands behind them in a word.
    """
    windows = []
    for held, numbers in reached_behind(letters, firsts, ways, size):
        for letter, column in zip(letters, ways):
            if any(len(column[number]) > 0 for number in numbers):
                windows.append(held + letter)
        if any(ended[number] for number in numbers):
            windows += last_windows(held, size)
    return sorted(set(windows))


def reached_behind(letters, firsts, ways, size):
    """The pairs of signs that may stand ahead of a place of a word, one less than the size, and the numbers there."""
    reached = []
    for many in range(size):
        marks = FRONT * (size - 1 - many)
        # Where no mark is among the signs, what is ahead of them may have led anywhere.
        newest = [(marks, firsts if marks != "" else list(range(len(ways[0]))))]
        for turn in range(many):
            newest = one_letter_on(letters, ways, newest)
        reached += newest
    return reached


def one_letter_on(letters, ways, reached):
    """The pairs of signs and numbers behind one more letter, where there are any."""
    longer = []
    for held, numbers in reached:
        for letter, column in zip(letters, ways):
            later = unseen([column[number] for number in numbers], {})
            if len(later) > 0:
                longer.append((held + letter, later))
    return longer


def slid(held, letter):
    """The signs that count behind one more letter, told those that counted ahead of it: as many of the newest ones."""
    return (held + letter)[1:]


def last_windows(held, size):
    """The windows that reach beyond the end of a word, told its last signs, one less than the size."""
    signs = held + BACK * (size - 1)
    return [signs[at:at + size] for at in range(size - 1)]


def window_machine(letters, windows, size):
    """The machine of the words all of whose windows of a size are in a list."""
    known = {window: True for window in windows}

    def follow(held):
        # None stands for a word with a window that is not known.
        return [slid(held, letter) if held is not None and held + letter in known else None for letter in letters]

    def is_end(held):
        return held is not None and all([window in known for window in last_windows(held, size)])

    return built(letters, FRONT * (size - 1), follow, is_end)
