"""Views: what is left of words when letters are struck out, and the machines of lists of these."""

from likehands.building import built, unseen
from likehands.machines import ways_of


def views_of(machine, size):
    """The views of at most so many letters of the words that a machine has, rising."""
    firsts, ways, ended = ways_of(machine)
    return views_of_ways(machine[0], ways, size)


def views_of_ways(letters, ways, size):
    """The views of the words that are read along ways, as useful_ways tells them, rising.

    All of these lie between a start and an end, so letters may be struck out
    by going on along any ways, and each place that is come to is one of a view.
    """
    many = len(ways[0])
    if many == 0:
        return []
    nexts = [[target for column in ways for target in column[number]] for number in range(many)]
    views = [""]
    newest = [("", list(range(many)))]
    for turn in range(size):
        longer = []
        for view, held in newest:
            for letter, column in zip(letters, ways):
                reached = spread([column[number] for number in held], nexts)
                if len(reached) > 0:
                    longer.append((view + letter, reached))
        views += [view for view, held in longer]
        newest = longer
    return views


def spread(lists, nexts):
    """The numbers of some lists, and all that are come to from these."""
    seen = {}
    found = unseen(lists, seen)
    at = 0
    while at < len(found):
        fresh = unseen([nexts[found[at]]], seen)
        found += fresh
        at += 1
    return found


def view_machine(letters, views, size):
    """The machine of the words all of whose views of a size are in a list."""
    known = {view: True for view in views}

    def follow(held):
        return [seen_behind(held, letter, known, size) for letter in letters]

    def is_end(held):
        return held is not None

    return built(letters, ("",) if "" in known else None, follow, is_end)


def seen_behind(held, letter, known, size):
    """The views of less letters than the size that a word has behind one more letter, told those ahead of it.

    None stands for a word with a view that is not known.
    """
    if held is None:
        return None
    longer = [view + letter for view in held]
    if not all([view in known for view in longer]):
        return None
    short = [view for view in longer if len(view) < size]
    return tuple(sorted(set(list(held) + short)))
