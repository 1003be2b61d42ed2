"""Closed views: lists of views that no rule of a world leads out of."""

from likehands.images import image_ways
from likehands.machines import least_word, without
from likehands.patterns import machine_of
from likehands.views import view_machine, views_of, views_of_ways


def closed_views(world, size):
    """The least closed list of views of a size, rising.

    Each closed list has the views of begin, and with some views those that the
    rules make of their machine: so nothing is put in here that may lack.
    """
    letters, shape, rules, begin, bad = world
    views = views_of(machine_of(letters, begin), size)
    fresh = views
    while len(fresh) > 0:
        fresh = views_lost(world, views, size)
        views = views + fresh
    return sorted(views, key=lambda view: (len(view), view))


def views_lost(world, views, size):
    """The views that are not in a list but are of what a rule makes of its machine, each once."""
    letters, shape, rules, begin, bad = world
    machine = view_machine(letters, views, size)
    known = {view: True for view in views}
    lost = []
    for rule in rules:
        firsts, ways, ended = image_ways(machine, shape, rule)
        for view in views_of_ways(letters, ways, size):
            if view not in known:
                known[view] = True
                lost.append(view)
    return lost


def are_closed_views(world, views, size):
    """Whether a list of views of a size is closed for a world."""
    machine = view_machine(world[0], views, size)
    if least_word(without(machine_of(world[0], world[3]), machine)) is not None:
        return False
    return len(views_lost(world, views, size)) == 0
