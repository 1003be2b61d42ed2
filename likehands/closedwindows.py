"""Closed windows: lists of windows that no rule of a world leads out of."""

from likehands.images import image_ways
from likehands.machines import least_word, without
from likehands.patterns import machine_of
from likehands.windows import window_machine, windows_of, windows_of_ways


def closed_windows(world, size):
    """The least closed list of windows of a size, rising by their signs.

    Each closed list has the windows of begin, and with some windows those that
    the rules make of their machine: so nothing is put in here that may lack.
    """
    letters, shape, rules, begin, bad = world
    windows = windows_of(machine_of(letters, begin), size)
    fresh = windows
    while len(fresh) > 0:
        fresh = windows_lost(world, windows, size)
        windows = windows + fresh
    return sorted(windows)


def windows_lost(world, windows, size):
    """The windows that are not in a list but are of what a rule makes of its machine, each once."""
    letters, shape, rules, begin, bad = world
    machine = window_machine(letters, windows, size)
    known = {window: True for window in windows}
    lost = []
    for rule in rules:
        firsts, ways, ended = image_ways(machine, shape, rule)
        for window in windows_of_ways(letters, firsts, ways, ended, size):
            if window not in known:
                known[window] = True
                lost.append(window)
    return lost


def are_closed_windows(world, windows, size):
    """Whether a list of windows of a size is closed for a world."""
    machine = window_machine(world[0], windows, size)
    if least_word(without(machine_of(world[0], world[3]), machine)) is not None:
        return False
    return len(windows_lost(world, windows, size)) == 0
