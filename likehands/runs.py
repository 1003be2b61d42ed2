"""Runs: the words that come for a number of hands, and the shortest ways to bad ones."""

from likehands.machines import has, words_of
from likehands.patterns import machine_of
from likehands.steps import steps_of


def come(world, number):
    """The words that come for a number of hands, rising."""
    found = begun(world, number)
    known = {word: True for word in found}
    at = 0
    while at < len(found):
        word = found[at]
        for other in next_words(world, word):
            if other not in known:
                known[other] = True
                found.append(other)
        at += 1
    return sorted(found)


def begun(world, number):
    """The words of begin for a number of hands, rising."""
    return words_of(machine_of(world[0], world[3]), number)


def next_words(world, word):
    """The words that come of a word by any rule, rising, each once."""
    return sorted({other for number, other in steps_of(world, word)})


def least_run(world, number):
    """The run with the fewest words for a number of hands, of these the first; or None."""
    bad = machine_of(world[0], world[4])

    def is_last(word):
        return has(bad, word)

    return shortest_run(world, number, is_last)


def shortest_run(world, number, is_last):
    """The shortest list of words from begin to one that is_last tells to be a last one, the first of these; or None.

    Words are gone through in the order of the first shortest lists that lead
    to them: so the way by which a word is first found is the first shortest
    one, and so is the first last word's.
    """
    found = begun(world, number)
    origins = {word: None for word in found}
    at = 0
    while at < len(found):
        word = found[at]
        if is_last(word):
            return run_to(word, origins)
        for other in next_words(world, word):
            if other not in origins:
                origins[other] = word
                found.append(other)
        at += 1
    return None


def run_to(word, origins):
    """The list of words that leads to a word, told the one ahead of each (None ahead of a first one)."""
    run = []
    while word is not None:
        run.append(word)
        word = origins[word]
    return run[::-1]


def first_broken(world, greatest):
    """The least number of hands, up to a greatest one, for which there is a run, with that run; or None."""
    for number in range(1, greatest + 1):
        run = least_run(world, number)
        if run is not None:
            return number, run
    return None
