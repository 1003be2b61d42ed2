"""Stuck words: those of which no step comes, of any length, and the shortest ways to them."""

from likehands.images import before
from likehands.machines import both, either, least_word, without
from likehands.patterns import machine_of
from likehands.runs import shortest_run
from likehands.steps import steps_of


def stuck_machine(world):
    """The machine of the stuck words of one letter or more."""
    letters, shape, rules, begin, bad = world
    every = machine_of(letters, ".+")
    going = without(every, every)
    for rule in rules:
        going = either(going, before(every, shape, rule))
    return without(every, going)


def least_stuck(world, machine):
    """The least stuck word of one letter or more that a machine has, or None."""
    return least_word(both(stuck_machine(world), machine))


def stuck_run(world, number):
    """The run with the fewest words to a stuck word for a number of hands, of these the first; or None."""

    def is_last(word):
        return len(steps_of(world, word)) == 0

    return shortest_run(world, number, is_last)
