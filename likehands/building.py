"""How a least machine is built of states that are first known by any keys, also where reading may go several ways."""


def built(letters, start, follow, is_end):
    """The least machine of what is read from start on.

    follow(key) is the list of the keys that come behind a key, one for each
    letter, by the letters' order; is_end(key) tells whether a word may stop there.
    """
    keys, table = walked(start, follow)
    ended = [is_end(key) for key in keys]
    return merged(letters, table, ended, parted(table, ended))


def walked(start, follow):
    """The keys that are come to, in the order of the first words that lead there, and their rows of numbers."""
    numbers = {start: 0}
    keys = [start]
    table = []
    while len(table) < len(keys):
        row = []
        behind = follow(keys[len(table)])
        for key in behind:
            if key not in numbers:
                numbers[key] = len(keys)
                keys.append(key)
            row.append(numbers[key])
        table.append(row)
    return keys, table


def parted(table, ended):
    """For each state the number of its group; one group's states have the same words ahead of them.

    Rounds over all states would be as many as the longest word that is needed
    to tell two states apart. So groups are split one by one (Hopcroft's way):
    the smaller part is the new group, and only new groups split others.
    """
    groups = first_groups(ended)
    homes = [0 for row in table]
    for number, members in enumerate(groups):
        for state in members:
            homes[state] = number
    backs = ways_back(table)
    at = 0
    while at < len(groups):
        targets = list(groups[at])
        for back in backs:
            hits = hits_of(back, targets, homes)
            for home in hits:
                split_group(groups, homes, home, hits[home])
        at += 1
    return homes


def first_groups(ended):
    """The states where a word may stop and the others; a group is a dict with its states as keys."""
    stops = {}
    others = {}
    for state, stop in enumerate(ended):
        if stop:
            stops[state] = True
        else:
            others[state] = True
    return [group for group in (stops, others) if len(group) > 0]


def ways_back(table):
    """For each letter's column, and in it for each state, the states that it is come to from."""
    backs = [[[] for row in table] for target in table[0]]
    for state, row in enumerate(table):
        for column, target in enumerate(row):
            backs[column][target].append(state)
    return backs


def hits_of(back, targets, homes):
    """The states that go to one of the targets by one letter, listed by their groups."""
    hits = {}
    for target in targets:
        for state in back[target]:
            home = homes[state]
            if home not in hits:
                hits[home] = []
            hits[home].append(state)
    return hits


def split_group(groups, homes, home, hit):
    """Part a group into its states that are hit and the others, if it has both."""
    members = groups[home]
    if len(hit) == len(members):
        return
    # Only work in proportion to the hit states is done, else splitting would be slow for large groups.
    if 2 * len(hit) <= len(members):
        moved = {state: True for state in hit}
        for state in hit:
            del members[state]
    else:
        kept = {state: True for state in hit}
        moved = {state: True for state in members if state not in kept}
        groups[home] = kept
    for state in moved:
        homes[state] = len(groups)
    groups.append(moved)


def merged(letters, table, ended, homes):
    """The machine with one state for each group.

    The table's states stand in the order of their first words, so the groups,
    numbered as they first turn up there, stand in the order of theirs.
    """
    numbers = {}
    heads = []
    for state, home in enumerate(homes):
        if home not in numbers:
            numbers[home] = len(heads)
            heads.append(state)
    rows = [tuple([numbers[homes[target]] for target in table[head]]) for head in heads]
    ends = [number for number, head in enumerate(heads) if ended[head]]
    return letters, tuple(rows), tuple(ends)


def useful_ways(starts, moves, is_end):
    """What reading that may go several ways comes to, as far as it leads on to an end.

    moves(key) is, for each letter, the list of the keys that may come behind a
    key. Told are the numbers of the starts; for each letter's column, and in it
    for each number, the numbers behind; and for each number whether a word may stop there.
    """
    keys, rows = explored(starts, moves)
    ended = [is_end(key) for key in keys]
    leads = leading(rows, ended)
    numbers = {}
    for old in range(len(keys)):
        if leads[old]:
            numbers[old] = len(numbers)
    width = len(rows[0])
    ways = [[[numbers[to] for to in rows[old][column] if leads[to]] for old in numbers] for column in range(width)]
    firsts = [numbers[old] for old in range(len(starts)) if leads[old]]
    return firsts, ways, [ended[old] for old in numbers]


def explored(starts, moves):
    """The keys that are come to from unlike starts, these first, and for each one and letter the numbers behind."""
    keys = list(starts)
    numbers = {key: number for number, key in enumerate(starts)}
    rows = []
    while len(rows) < len(keys):
        row = []
        behind = moves(keys[len(rows)])
        for group in behind:
            for key in group:
                if key not in numbers:
                    numbers[key] = len(keys)
                    keys.append(key)
            row.append([numbers[key] for key in group])
        rows.append(row)
    return keys, rows


def leading(rows, ended):
    """For each number whether reading may go on from it to an end."""
    back = [[] for row in rows]
    for number, row in enumerate(rows):
        for group in row:
            for target in group:
                back[target].append(number)
    leads = list(ended)
    found = [number for number, stop in enumerate(ended) if stop]
    while len(found) > 0:
        target = found.pop()
        for number in back[target]:
            if not leads[number]:
                leads[number] = True
                found.append(number)
    return leads


def built_of_ways(letters, firsts, ways, ended):
    """The least machine of the words by which one of several ways, as useful_ways tells them, leads to an end."""

    def follow(held):
        return [tuple(sorted({target for number in held for target in column[number]})) for column in ways]

    def is_end(held):
        return any([ended[number] for number in held])

    return built(letters, tuple(firsts), follow, is_end)


def least_read(letters, starts, moves, is_end):
    """The least word by which one of several ways leads from a start to an end, or None.

    moves(key) is as useful_ways takes it. The keys that are first come to by
    one word are a group, so each key stands in the group of its least word
    alone, and the groups stand in the order of their words.
    """
    seen = {key: True for key in starts}
    groups = [list(starts)]
    origins = [(0, "")]
    at = 0
    while at < len(groups):
        group = groups[at]
        if any([is_end(key) for key in group]):
            return word_to(at, origins)
        rows = [moves(key) for key in group]
        for column, letter in enumerate(letters):
            fresh = unseen([row[column] for row in rows], seen)
            if len(fresh) > 0:
                groups.append(fresh)
                origins.append((at, letter))
        at += 1
    return None


def unseen(lists, seen):
    """The keys of some lists that were not seen, each once; now they are."""
    fresh = []
    for keys in lists:
        for key in keys:
            if key not in seen:
                seen[key] = True
                fresh.append(key)
    return fresh


def word_to(number, origins):
    """The word that leads to a group, told the number of the one ahead of each and the letter read there."""
    signs = []
    while number != 0:
        number, letter = origins[number]
        signs.append(letter)
    return "".join(signs[::-1])
