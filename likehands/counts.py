"""How many of a letter may be in the words of a machine, with the least words that have so many; and two at once."""

from likehands.building import least_read, unseen
from likehands.machines import both, least_word, ways_of
from likehands.patterns import machine_of


def most_of(machine, letter):
    """The greatest number of a letter in a word of a machine, with the least such word; or that it is ever more."""
    letters = machine[0]
    column = letters.index(letter)
    firsts, ways, ended = ways_of(machine)
    if len(firsts) == 0:
        return None
    homes = rounds_of(ways)
    if any([homes[number] == homes[target] for number, later in enumerate(ways[column]) for target in later]):
        return ("ever more",)
    return counted(letters, ways, ended, column, most_ahead(ways, column, homes))


def least_of(machine, letter):
    """The least number of a letter in a word of a machine, with the least such word."""
    letters = machine[0]
    column = letters.index(letter)
    firsts, ways, ended = ways_of(machine)
    if len(firsts) == 0:
        return None
    return counted(letters, ways, ended, column, fewest_ahead(ways, ended, column))


def with_both(machine, one, other):
    """The least word of a machine that has two letters, in any order; or None."""
    letters = machine[0]
    with_one = both(machine, machine_of(letters, f".*{one}.*"))
    return least_word(both(with_one, machine_of(letters, f".*{other}.*")))


def counted(letters, ways, ended, column, counts):
    """The number that counts tell ahead of the start, and the least word that has so many of a column's letter.

    Such a word goes only along ways by which nothing of the count is lost.
    """

    def moves(number):
        return [[target for target in nexts[number] if counts[target] + worth(at, column) == counts[number]]
                for at, nexts in enumerate(ways)]

    def is_end(number):
        return ended[number] and counts[number] == 0

    return counts[0], least_read(letters, [0], moves, is_end)


def worth(at, column):
    """How many more of a column's letter there are by reading the one of a column."""
    return 1 if at == column else 0


def most_ahead(ways, column, homes):
    """For each number the most of a column's letter that may still be read, where no round has this letter."""
    heights = [0 for number in homes]
    # Rounds are numbered so that ways lead to later ones, so what lies behind is known first.
    order = sorted(range(len(homes)), key=lambda place: -homes[place])
    for number in order:
        for at, nexts in enumerate(ways):
            for target in nexts[number]:
                height = heights[homes[target]] + worth(at, column)
                heights[homes[number]] = max(heights[homes[number]], height)
    return [heights[home] for home in homes]


def fewest_ahead(ways, ended, column):
    """For each number the fewest of a column's letter that are still read up to an end."""
    plain = backwards([nexts for at, nexts in enumerate(ways) if at != column], len(ended))
    costly = backwards([ways[column]], len(ended))
    fewest = [0 for stop in ended]
    seen = {}
    newest = unseen([[number for number, stop in enumerate(ended) if stop]], seen)
    many = 0
    while len(newest) > 0:
        at = 0
        while at < len(newest):
            fewest[newest[at]] = many
            fresh = unseen([plain[newest[at]]], seen)
            newest += fresh
            at += 1
        newest = unseen([costly[number] for number in newest], seen)
        many += 1
    return fewest


def backwards(columns, many):
    """For each number those from which some columns of ways lead to it."""
    back = [[] for number in range(many)]
    for nexts in columns:
        for number, later in enumerate(nexts):
            for target in later:
                back[target].append(number)
    return back


def rounds_of(ways):
    """For each number that of its round: of all that lead to each other; a way leads to the same or a later round."""
    back = backwards(ways, len(ways[0]))
    homes = [None for number in back]
    many = 0
    order = left_order(ways)
    for first in order[::-1]:
        if homes[first] is None:
            gather(first, back, homes, many)
            many += 1
    return homes


def gather(first, back, homes, home):
    """Tell a round's number to all that lead to its first one and have none yet."""
    homes[first] = home
    found = [first]
    while len(found) > 0:
        number = found.pop()
        for other in back[number]:
            if homes[other] is None:
                homes[other] = home
                found.append(other)


def left_order(ways):
    """The numbers in the order in which they are left when ways are gone from the start, each one to its end first."""
    later = [[target for nexts in ways for target in nexts[number]] for number in range(len(ways[0]))]
    places = [0 for number in later]
    seen = {0: True}
    path = [0]
    order = []
    while len(path) > 0:
        number = path[-1]
        if places[number] == len(later[number]):
            order.append(path.pop())
            continue
        target = later[number][places[number]]
        places[number] += 1
        if target not in seen:
            seen[target] = True
            path.append(target)
    return order
