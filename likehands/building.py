"""How a least machine is built of states that are first known by any keys."""


def built(letters, start, follow, is_end):
    """The least machine of what is read from start on.

    follow(key) is the list of the keys that come behind a key, one for each
    letter, by the letters' order; is_end(key) tells whether a word may stop there.
    """
    keys, table = walked(start, follow)
    ended = [is_end(key) for key in keys]
    return merged(letters, table, ended, parted(table, ended))


def walked(start, follow):
    """The keys that are come to, in the order of the first words that lead there, and their rows of numbers."""
    numbers = {start: 0}
    keys = [start]
    table = []
    while len(table) < len(keys):
        row = []
        behind = follow(keys[len(table)])
        for key in behind:
            if key not in numbers:
                numbers[key] = len(keys)
                keys.append(key)
            row.append(numbers[key])
        table.append(row)
    return keys, table


def parted(table, ended):
    """For each state the number of its group; one group's states have the same words ahead of them.

    Rounds over all states would be as many as the longest word that is needed
    to tell two states apart. So groups are split one by one (Hopcroft's way):
    the smaller part is the new group, and only new groups split others.
    """
    groups = first_groups(ended)
    homes = [0 for row in table]
    for number, members in enumerate(groups):
        for state in members:
            homes[state] = number
    backs = ways_back(table)
    at = 0
    while at < len(groups):
        targets = list(groups[at])
        for back in backs:
            hits = hits_of(back, targets, homes)
            for home in hits:
                split_group(groups, homes, home, hits[home])
        at += 1
    return homes


def first_groups(ended):
    """The states where a word may stop and the others; a group is a dict with its states as keys."""
    stops = {}
    others = {}
    for state, stop in enumerate(ended):
        if stop:
            stops[state] = True
        else:
            others[state] = True
    return [group for group in (stops, others) if len(group) > 0]


def ways_back(table):
    """For each letter's column, and in it for each state, the states that it is come to from."""
    backs = [[[] for row in table] for target in table[0]]
    for state, row in enumerate(table):
        for column, target in enumerate(row):
            backs[column][target].append(state)
    return backs


def hits_of(back, targets, homes):
    """The states that go to one of the targets by one letter, listed by their groups."""
    hits = {}
    for target in targets:
        for state in back[target]:
            home = homes[state]
            if home not in hits:
                hits[home] = []
            hits[home].append(state)
    return hits


def split_group(groups, homes, home, hit):
    """Part a group into its states that are hit and the others, if it has both."""
    members = groups[home]
    if len(hit) == len(members):
        return
    # Only work in proportion to the hit states is done, else splitting would be slow for large groups.
    if 2 * len(hit) <= len(members):
        moved = {state: True for state in hit}
        for state in hit:
            del members[state]
    else:
        kept = {state: True for state in hit}
        moved = {state: True for state in members if state not in kept}
        groups[home] = kept
    for state in moved:
        homes[state] = len(groups)
    groups.append(moved)


def merged(letters, table, ended, homes):
    """The machine with one state for each group.

    The table's states stand in the order of their first words, so the groups,
    numbered as they first turn up there, stand in the order of theirs.
    """
    numbers = {}
    heads = []
    for state, home in enumerate(homes):
        if home not in numbers:
            numbers[home] = len(heads)
            heads.append(state)
    rows = [tuple([numbers[homes[target]] for target in table[head]]) for head in heads]
    ends = [number for number, head in enumerate(heads) if ended[head]]
    return letters, tuple(rows), tuple(ends)
