"""Promises 11, 12 and 13: plans, the told plan, legs."""

import itertools
import random
import unittest

from cupdraw.errors import CupError, NoSize
from cupdraw.plans import is_plan, legs_of, plan_of

SIZES = range(2, 17)

BY_HAND = {
    2: [[(0, 1)]],
    3: [[(1, 2)], [(2, 0)], [(0, 1)]],
    4: [[(0, 3), (1, 2)], [(3, 1), (2, 0)], [(2, 3), (0, 1)]],
    5: [[(1, 4), (3, 2)], [(2, 0), (4, 3)], [(3, 1), (0, 4)], [(4, 2), (1, 0)], [(0, 3), (2, 1)]],
    6: [
        [(0, 5), (1, 4), (3, 2)], [(5, 1), (2, 0), (4, 3)], [(2, 5), (3, 1), (0, 4)],
        [(5, 3), (4, 2), (1, 0)], [(4, 5), (0, 3), (2, 1)],
    ],
}
ROUNDS_BY_HAND = {
    (7, 0): [(1, 6), (5, 2), (3, 4)],
    (7, 6): [(0, 5), (4, 1), (2, 3)],
    (8, 1): [(7, 1), (2, 0), (6, 3), (4, 5)],
    (16, 0): [(0, 15), (1, 14), (13, 2), (3, 12), (11, 4), (5, 10), (9, 6), (7, 8)],
    (16, 14): [(14, 15), (0, 13), (12, 1), (2, 11), (10, 3), (4, 9), (8, 5), (6, 7)],
}

NO_SIZES = (
    None, True, False, "2", "", "4", 2.0, 4.5, b"4", [], [2], [4], (4,), (), {}, {4: 4}, {4}, object(), int, range(4),
)


def plain_rounds(n):
    return n if n % 2 else n - 1


def plain_plan(n):
    """The plan as 12 tells it, pair by pair: those who meet in the round r are as far from r, on either side."""
    m = plain_rounds(n)
    plan = []
    for r in range(m):
        pairs = []
        if n % 2 == 0:
            pairs.append(((r, n - 1), (n - 1, r))[r % 2])
        for j in range(1, m):
            if j <= (m - 1) / 2:
                a, b = [p for p in range(m) if (p - r - j) % m == 0] + [p for p in range(m) if (r - j - p) % m == 0]
                pairs.append(((b, a), (a, b))[j % 2])
        plan.append(pairs)
    return plan


def turned(rounds):
    return [[(away, home) for home, away in pairs] for pairs in rounds]


def copied(rounds):
    return [list(pairs) for pairs in rounds]


def shaken(chance, n):
    """A good plan with rounds, pairs, sides and players in another order."""
    names = chance.sample(range(n), n)
    plan = [[(names[home], names[away]) for home, away in pairs] for pairs in BY_HAND.get(n) or plain_plan(n)]
    plan = [[pair[::chance.choice((1, -1))] for pair in pairs] for pairs in plan]
    for pairs in plan:
        chance.shuffle(pairs)
    chance.shuffle(plan)
    return plan


def spoiled_pairs(plan, n, number, place):
    """The plan with one pair made wrong."""
    home, away = plan[number][place]
    others = [(home, home), (away, away), (home, n), (n, away), (-1, away), (home, -1), (home, 99), (-n, away)]
    others += [(home, other) for other in range(n) if other not in (home, away)]
    others += [(other, away) for other in range(n) if other not in (home, away)]
    for pair in others:
        spoiled = copied(plan)
        spoiled[number][place] = pair
        yield spoiled
    for extra in ((home, away), (away, home), (home, home), (n, n + 1), (-1, -2)):
        spoiled = copied(plan)
        spoiled[number].append(extra)
        yield spoiled
    spoiled = copied(plan)
    spoiled[number].pop(place)
    yield spoiled
    for other in range(len(plan)):
        if other != number:
            spoiled = copied(plan)
            spoiled[other].append(spoiled[number].pop(place))
            yield spoiled
            spoiled = copied(plan)
            spoiled[other].append((home, away))
            yield spoiled


def spoiled_rounds(plan, number):
    """The plan with one round left out, emptied, or told twice."""
    yield plan[:number] + plan[number + 1:]
    yield plan[:number] + [[]] + plan[number + 1:]
    yield plan[:number] + [[]] + plan[number:]
    yield plan + [plan[number]]
    yield plan[:number] + turned(plan[number:number + 1]) + plan[number:]
    for other in range(len(plan)):
        if other != number:
            yield plan[:number] + [plan[other]] + plan[number + 1:]
            yield plan[:number] + turned([plan[other]]) + plan[number + 1:]


class ToldPlan(unittest.TestCase):

    def test_by_hand(self):
        for n, plan in BY_HAND.items():
            with self.subTest(n=n):
                self.assertEqual(plan_of(n), plan)
        for (n, number), pairs in ROUNDS_BY_HAND.items():
            with self.subTest(n=n, number=number):
                self.assertEqual(plan_of(n)[number], pairs)

    def test_as_told_for_all_sizes(self):
        for n in SIZES:
            with self.subTest(n=n):
                self.assertEqual(plan_of(n), plain_plan(n))

    def test_every_two_meet_just_once(self):
        for n in SIZES:
            plan = plan_of(n)
            self.assertEqual(len(plan), plain_rounds(n))
            met = sorted(tuple(sorted(pair)) for pairs in plan for pair in pairs)
            self.assertEqual(met, list(itertools.combinations(range(n), 2)))

    def test_nobody_comes_twice_in_a_round_and_for_odd_n_its_number_is_free(self):
        for n in SIZES:
            for number, pairs in enumerate(plan_of(n)):
                free = [number] if n % 2 else []
                self.assertEqual(sorted(sum(pairs, ()) + tuple(free)), list(range(n)))

    def test_the_kinds(self):
        for n in SIZES:
            plan = plan_of(n)
            self.assertEqual({type(pairs) for pairs in [plan] + plan}, {list})
            self.assertEqual({type(pair) for pairs in plan for pair in pairs}, {tuple})

    def test_told_lists_are_the_askers_own(self):
        for n in (2, 5, 16):
            first, second = plan_of(n), plan_of(n)
            for pairs in first:
                pairs.append((99, 98))
            first.clear()
            self.assertEqual(second, plain_plan(n))
            self.assertEqual(plan_of(n), plain_plan(n))


class Legs(unittest.TestCase):

    def test_by_hand(self):
        self.assertEqual(legs_of(2, 1), [[(0, 1)]])
        self.assertEqual(legs_of(2, 4), [[(0, 1)], [(1, 0)], [(0, 1)], [(1, 0)]])
        self.assertEqual(legs_of(3, 2), [[(1, 2)], [(2, 0)], [(0, 1)], [(2, 1)], [(0, 2)], [(1, 0)]])
        self.assertEqual(legs_of(4, 3), BY_HAND[4] + [
            [(3, 0), (2, 1)], [(1, 3), (0, 2)], [(3, 2), (1, 0)],
        ] + BY_HAND[4])

    def test_all_sizes(self):
        for n in SIZES:
            plan = plain_plan(n)
            self.assertEqual(legs_of(n, 1), plan)
            self.assertEqual(legs_of(n, 2), plan + turned(plan))
            self.assertEqual(legs_of(n, 3), plan + turned(plan) + plan)
            self.assertEqual(legs_of(n, 4), plan + turned(plan) + plan + turned(plan))

    def test_no_two_places_hold_one_list(self):
        for n in SIZES:
            for times in range(1, 5):
                rounds = legs_of(n, times)
                self.assertEqual(len({id(pairs) for pairs in rounds}), plain_rounds(n) * times)
                self.assertEqual({type(pairs) for pairs in [rounds] + rounds}, {list})
                self.assertEqual({type(pair) for pairs in rounds for pair in pairs}, {tuple})

    def test_told_lists_are_the_askers_own(self):
        first = legs_of(5, 4)
        for pairs in first:
            pairs.clear()
        first.clear()
        self.assertEqual(legs_of(5, 2), BY_HAND[5] + turned(BY_HAND[5]))
        self.assertEqual(plan_of(5), BY_HAND[5])


class IsPlan(unittest.TestCase):

    def test_the_told_plans(self):
        for n in SIZES:
            self.assertIs(is_plan(plain_plan(n), n), True)
            self.assertIs(is_plan(plan_of(n), n), True)
            self.assertIs(is_plan(turned(plain_plan(n)), n), True)
            self.assertIs(is_plan(plain_plan(n)[::-1], n), True)

    def test_good_plans_in_any_order(self):
        chance = random.Random(5)
        for n in SIZES:
            for _ in range(20):
                plan = shaken(chance, n)
                with self.subTest(plan=plan):
                    self.assertIs(is_plan(plan, n), True)

    def test_a_plan_for_others(self):
        for n, other in itertools.permutations(SIZES, 2):
            self.assertIs(is_plan(plain_plan(n), other), False)

    def test_spoiled_pairs(self):
        chance = random.Random(6)
        for n in SIZES:
            plan = shaken(chance, n)
            for _ in range(6):
                number = chance.randrange(len(plan))
                place = chance.randrange(len(plan[number]))
                for spoiled in spoiled_pairs(plan, n, number, place):
                    with self.subTest(n=n, spoiled=spoiled):
                        self.assertIs(is_plan(spoiled, n), False)

    def test_spoiled_rounds(self):
        chance = random.Random(8)
        for n in SIZES:
            plan = shaken(chance, n)
            for number in range(len(plan)):
                for spoiled in spoiled_rounds(plan, number):
                    with self.subTest(n=n, spoiled=spoiled):
                        self.assertIs(is_plan(spoiled, n), False)

    def test_pairs_exchanged_between_rounds(self):
        self.assertIs(is_plan([[(0, 1), (0, 2)], [(0, 3), (1, 2)], [(1, 3), (2, 3)]], 4), False)
        self.assertIs(is_plan([[(0, 1), (2, 3)], [(0, 2), (1, 2)], [(0, 3), (1, 3)]], 4), False)
        for n in range(4, 17):
            spoiled = plain_plan(n)
            spoiled[0][0], spoiled[1][0] = spoiled[1][0], spoiled[0][0]
            self.assertIs(is_plan(spoiled, n), False)

    def test_more_rounds_than_need_be(self):
        self.assertIs(is_plan([[(0, 1)], []], 2), False)
        self.assertIs(is_plan([[pair] for pair in itertools.combinations(range(4), 2)], 4), False)
        self.assertIs(is_plan([[(0, 1), (2, 3)], [(0, 2), (1, 3)], [(0, 3)], [(1, 2)]], 4), False)
        self.assertIs(is_plan([[(0, 1)], [(0, 2)], [(1, 2)], []], 3), False)

    def test_too_few_rounds_for_all_pairs(self):
        self.assertIs(is_plan([[(0, 1), (0, 2), (1, 2)]], 3), False)
        self.assertIs(is_plan([[(0, 1), (0, 2)], [(1, 2)]], 3), False)
        self.assertIs(is_plan([[(0, 1), (0, 2), (1, 2)], [], []], 3), False)

    def test_nothing_at_all(self):
        for n in SIZES:
            self.assertIs(is_plan([], n), False)
            self.assertIs(is_plan([[]], n), False)
            self.assertIs(is_plan([[] for _ in range(plain_rounds(n))], n), False)

    def test_truths_are_no_players(self):
        self.assertIs(is_plan([[(False, True)]], 2), False)
        self.assertIs(is_plan([[(0, True)]], 2), False)

    def test_legs_are_no_plan(self):
        for n in SIZES:
            for times in range(2, 5):
                self.assertIs(is_plan(legs_of(n, times), n), False)

    def test_the_rounds_handed_in_stay_as_they_were(self):
        for n in SIZES:
            plan = shaken(random.Random(n), n)
            before = copied(plan)
            is_plan(plan, n)
            self.assertEqual(plan, before)


class Refused(unittest.TestCase):

    def test_players_too_few_or_too_many(self):
        for n in (1, 0, -1, -2, -16, 17, 18, 100, 10 ** 30, -10 ** 30):
            self.check(n)

    def test_players_of_any_kind(self):
        for thing in NO_SIZES:
            self.check(thing)

    def test_times_too_few_or_too_many(self):
        for times in (0, -1, -4, 5, 6, 100, 10 ** 30):
            self.check_refused(legs_of, 4, times)

    def test_times_of_any_kind(self):
        for thing in NO_SIZES + (1.0, "1", [1]):
            self.check_refused(legs_of, 4, thing)
            self.check_refused(legs_of, thing, thing)

    def check(self, thing):
        self.check_refused(plan_of, thing)
        for times in range(1, 5):
            self.check_refused(legs_of, thing, times)
        for plan in ([], [[]], [[(0, 1)]], BY_HAND[4]):
            self.check_refused(is_plan, plan, thing)

    def check_refused(self, ask, *things):
        with self.subTest(ask=ask.__name__, things=str(things)), self.assertRaises(CupError) as taken:
            ask(*things)
        self.assertIs(type(taken.exception), NoSize)


if __name__ == "__main__":
    unittest.main()
