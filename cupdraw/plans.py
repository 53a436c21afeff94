"""Plans: rounds of pairs (home, away) in which every two players meet just once."""

from cupdraw.sizes import checked_size
from cupdraw.wholes import is_whole

LEAST_PLAYERS = 2
MOST_PLAYERS = 16
MOST_LEGS = 4


def checked_players(n):
    """The number of players that a thing of any kind is; what is none for a plan is refused with NoSize."""
    return checked_size(n, LEAST_PLAYERS, MOST_PLAYERS)


def rounds_for(n):
    """How many rounds a plan for n players has."""
    return n - 1 if n % 2 == 0 else n


def told_round(n, number):
    """The round of that number in the told plan for n players."""
    m = rounds_for(n)
    pairs = []
    if n % 2 == 0:
        pairs.append((number, n - 1) if number % 2 == 0 else (n - 1, number))
    for step in range(1, (m - 1) // 2 + 1):
        one = (number + step) % m
        other = (number - step) % m
        pairs.append((one, other) if step % 2 == 1 else (other, one))
    return pairs


def plan_of(n):
    """The told plan for n players, as a list of rounds."""
    checked_players(n)
    return [told_round(n, number) for number in range(rounds_for(n))]


def exchanged(rounds):
    """The rounds with home and away exchanged in each pair, as new lists."""
    turned = []
    for pairs in rounds:
        turned.append([(away, home) for home, away in pairs])
    return turned


def legs_of(n, times):
    """The told plan for n players gone through so often, every second time with home and away exchanged."""
    checked_size(times, 1, MOST_LEGS)
    rounds = []
    for leg in range(times):
        # Made anew for each leg, as no two places may hold one and the same list.
        rounds.extend(plan_of(n) if leg % 2 == 0 else exchanged(plan_of(n)))
    return rounds


def is_round(pairs):
    """Whether the pairs hold whole numbers alone, and none of them twice."""
    players = []
    for pair in pairs:
        players.extend(pair)
    if not all([is_whole(player) for player in players]):
        return False
    return len(set(players)) == len(players)


def pairs_met(rounds):
    """The pairs of all the rounds, rising, the lesser player ahead in each."""
    met = []
    for pairs in rounds:
        met.extend([(min(pair), max(pair)) for pair in pairs])
    return sorted(met)


def every_two(n):
    """All pairs of two of the players 0 to n - 1, rising, the lesser player ahead in each."""
    pairs = []
    for one in range(n):
        pairs.extend([(one, other) for other in range(one + 1, n)])
    return pairs


def is_plan(rounds, n):
    """Whether rounds are a plan for n players."""
    checked_players(n)
    if len(rounds) != rounds_for(n):
        return False
    if not all([is_round(pairs) for pairs in rounds]):
        return False
    return pairs_met(rounds) == every_two(n)
