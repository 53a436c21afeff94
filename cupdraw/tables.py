"""Tables: the players in groups, parted by the words of rules in their order."""

from cupdraw.parters import parter


def worths_by(word, rules, games, group):
    """The worths of the players of a group by a word, as a dict."""
    way = parter(word)
    worths = {}
    for player in group:
        worths[player] = way.worth(rules.rule_of(), games, group, player)
    return worths


def first_split(rules, games, group):
    """The first word that parts a group and the worths by it, as a tuple; None where no word does."""
    for word in rules.words_of():
        worths = worths_by(word, rules, games, group)
        if any([worths[player] != worths[group[0]] for player in group]):
            return (word, worths)
    return None


def parts_by(group, worths):
    """The players of a group by their worths, the greatest worth ahead, as a list of new lists."""
    parts = {}
    for player in group:
        parts.setdefault(worths[player], []).append(player)
    return [parts[worth] for worth in sorted(parts, reverse=True)]


def parted(rules, games, group):
    """The groups into which a group falls in the end."""
    split = first_split(rules, games, group)
    if split is None:
        return [group]
    groups = []
    for part in parts_by(group, split[1]):
        groups.extend(parted(rules, games, part))
    return groups


def groups_of(rules, games, n):
    """The groups of the players 0 to n - 1, as a list of lists."""
    return parted(rules, games, list(range(n)))


def places_of(rules, games, n):
    """The place of each of the players 0 to n - 1, as a list."""
    places = [0] * n
    ahead = 0
    for group in groups_of(rules, games, n):
        for player in group:
            places[player] = ahead + 1
        ahead += len(group)
    return places


def parted_by(rules, games, n, one, other):
    """Where two players were parted, as a tuple (group, word, worth, worth); None where they are in one group."""
    group = list(range(n))
    split = first_split(rules, games, group)
    while split is not None:
        worths = split[1]
        if worths[one] != worths[other]:
            return (group, split[0], worths[one], worths[other])
        group = [player for player in group if worths[player] == worths[one]]
        split = first_split(rules, games, group)
    return None
