"""The judge: whether something bad comes for few hands, or for no number of hands, or whether that stays open."""

from likehands.closedviews import closed_views
from likehands.closedwindows import closed_windows
from likehands.keeping import looked_at, safe_for
from likehands.machines import both
from likehands.runs import first_broken
from likehands.views import view_machine
from likehands.windows import window_machine

MOST_STEPS = 3


def judged(world, greatest):
    """What is told of a world: that it breaks for at most so many hands, that it never does, or that this is open."""
    broken = first_broken(world, greatest)
    if broken is not None:
        number, run = broken
        return "breaks", number, run
    # Later machines may be large, so none is made where what comes ahead of it is enough.
    for machine in machines_tried(world):
        found = looked_at(world, machine)
        if found == ("kept",):
            return "never", machine
        # Only words that are safe for some steps may lack a word of begin: then those for more steps lack it, too.
        if found[0] == "begin":
            break
    return ("open",)


def machines_tried(world):
    """The machines that may show that nothing bad comes, one by one."""
    yield of_views(world, 1)
    views = of_views(world, 2)
    yield views
    yield of_windows(world, 1)
    pairs = of_windows(world, 2)
    yield pairs
    triples = of_windows(world, 3)
    yield triples
    yield both(views, pairs)
    yield both(views, triples)
    for steps in range(MOST_STEPS + 1):
        yield safe_for(world, steps)


def of_views(world, size):
    """The machine of the least closed list of views of a size."""
    return view_machine(world[0], closed_views(world, size), size)


def of_windows(world, size):
    """The machine of the least closed list of windows of a size."""
    return window_machine(world[0], closed_windows(world, size), size)
