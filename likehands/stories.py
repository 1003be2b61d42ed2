"""Stories: runs written by lines with the rules that make their steps, and the places at which a rule goes."""

from likehands.errors import NoStory
from likehands.machines import has
from likehands.patterns import machine_of
from likehands.steps import made_at, steps_of


def show_story(world, run):
    """The story of a run, whose last word need not be of bad; NoStory where the words are no such run of the world."""
    if len(run) == 0 or not has(machine_of(world[0], world[3]), run[0]):
        raise NoStory("a run begins with a word of begin")
    lines = [run[0]]
    for at in range(1, len(run)):
        number = least_number(world, run[at - 1], run[at])
        lines.append(f"{number} {run[at]}")
    return "".join([line + "\n" for line in lines])


def least_number(world, word, other):
    """The least number of a rule that makes a word of another one."""
    numbers = [number for number, made in steps_of(world, word) if made == other]
    if len(numbers) == 0:
        raise NoStory("no rule makes this step")
    return numbers[0]


def read_story(world, text):
    """The run of a story; NoStory of any text but a run's own.

    The lines are only taken apart here. That just this text is written of
    their words shows that nothing else stood there.
    """
    if not isinstance(text, str):
        raise NoStory("a story is read from a text")
    lines = text.split("\n")[:-1]
    run = [line.rpartition(" ")[2] for line in lines]
    if show_story(world, run) != text:
        raise NoStory("this is no run's story")
    return run


def places_of(world, number, word, other):
    """The places at which the rule of a number makes just one word of another, rising."""
    letters, shape, rules, begin, bad = world
    return [place for place, made in made_at(letters, shape, rules[number], word) if made == other]
