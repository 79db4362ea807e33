"""Stage 9: best policies, adversary tables and game solutions, whoever made them."""

import random
import unittest

from hindcost.errors import InvalidNumber, InvalidOffline, InvalidSystem, TooLarge
from hindcost.games.certificates import is_adversary_table, is_best_policy, is_game_solution
from hindcost.games.solver import solve_game
from hindcost.policies.reduced import reduced_policy
from hindcost.ratios.certificates import is_potential
from hindcost.ratios.ratios import ratio_certificate, ratio_of
from tests import slow
from tests.helpers import (
    A, MOVE, ODD, ONE, STAY, T, TWO, assert_error, only_one, random_policy, renumbered, replacements, slide, slides,
    split_policy, turning,
)

CASES = list(slow.random_games(101, 90))
HARD = (
    ((0, (0, 1), ()), 1, 0, 0), ((0, (1, 0), ()), 1, 0, 0), ((1, (0, 1), ()), 0, 0, 0), ((1, (1, 0), ()), 0, 0, 0),
)
RATIOS = ((0, 1), (1, 0), (1, 1), (1, 2), (2, 1), (5, 2), (7, 3))
NO_RATIOS = (None, 1, (2, 4), (0, 0), (2, 0), (True, 1), (1, False), (1,), [1, 1], "1/1", (-1, 1), (1, 1, 1), {1: 1})
PAYING = (TWO[0], ((1, 1), (1, 1)), 0)


def base_of(system, offline):
    return system if offline is None else offline


def solved(cases):
    for system, offline, lookahead in cases:
        keywords = {"offline": offline, "lookahead": lookahead}
        yield system, keywords, solve_game(system, **keywords)


def changed_entries(rng, requests, table):
    """The table with one number, level or request changed, or with one entry less, or with two in another order."""
    for at in range(len(table)) if len(table) <= 12 else rng.sample(range(len(table)), 12):
        position, request, number, level = table[at]
        changed = [(position, request, number + step, level) for step in (-1, 1)]
        changed += [(position, request, number, level + step) for step in (-1, 1)]
        changed += [(position, other, number, level) for other in range(requests) if other != request]
        for entry in changed:
            yield table[:at] + (entry,) + table[at + 1:]
        yield table[:at] + table[at + 1:]
        yield table[:at] + (table[at],) + table[at:]
        yield (table[at],) + table[:at] + table[at + 1:]


class TestIsAdversaryTable(unittest.TestCase):
    def test_examples(self):
        self.assertEqual([is_adversary_table(A, (1, 1), HARD), is_adversary_table(A, (2, 1), HARD)], [True, False])

    def test_all_changes_of_the_example(self):
        rng = random.Random(102)
        game = slow.game_by_hand(A, A, 0)
        first = slow.game_starts(A, A, 0)
        for ratio in RATIOS:
            for table in (HARD, *changed_entries(rng, 2, HARD)):
                expected = bool(table) and slow.table_holds(game, first, ratio, table)
                self.assertIs(is_adversary_table(A, ratio, table), expected, (ratio, table))

    def test_returned_and_changed_ones(self):
        rng = random.Random(103)
        found = {}
        for system, keywords, (value, _, table) in solved(CASES):
            if table is None:
                continue
            base = base_of(system, keywords["offline"])
            game = slow.game_by_hand(system, base, keywords["lookahead"])
            first = slow.game_starts(system, base, keywords["lookahead"])
            self.assertIs(is_adversary_table(system, value, table, **keywords), True)
            for changed in changed_entries(rng, len(system[1]), table):
                expected = bool(changed) and slow.table_holds(game, first, value, changed)
                self.assertIs(is_adversary_table(system, value, changed, **keywords), expected)
                kind = (value == (1, 0), expected)
                found[kind] = found.get(kind, 0) + 1
            for ratio in RATIOS:
                expected = slow.table_holds(game, first, ratio, table)
                self.assertIs(is_adversary_table(system, ratio, table, **keywords), expected)
                if slow.is_less(value, ratio):
                    self.assertFalse(expected)
        self.assertEqual(len(found), 4)
        self.assertGreater(min(found.values()), 30)

    def test_shifted_numbers_and_levels(self):
        for system, keywords, (value, _, table) in solved(CASES):
            if table is not None:
                for number, level in ((7, 0), (0, -9), (-10**49, 10**49), (10**49, -3)):
                    shifted = tuple((place, request, n + number, m + level) for place, request, n, m in table)
                    self.assertIs(is_adversary_table(system, value, shifted, **keywords), True)

    def test_smaller_ratios(self):
        # The requests that force the value force each smaller ratio, with other numbers and levels.
        checked = 0
        for system, keywords, (value, _, table) in solved(CASES):
            if table is None or value == (1, 0):
                continue
            game = slow.game_by_hand(system, base_of(system, keywords["offline"]), keywords["lookahead"])
            plan = {place: request for place, request, _, _ in table}
            p, q = value
            for smaller in (value, slow.quotient(p, 2 * q), slow.quotient(3 * p, 4 * q), slow.quotient(p, 100 * q)):
                made = slow.table_by_hand(game, smaller, plan)
                self.assertIs(is_adversary_table(system, smaller, made, **keywords), True)
                checked += 1
            greater = slow.quotient(100 * p + 1, 100 * q)
            made = slow.table_by_hand(game, greater, plan)
            self.assertIs(is_adversary_table(system, greater, made, **keywords), False)
        self.assertGreater(checked, 100)

    def test_more_and_fewer_entries(self):
        # The value of T is forced from each position; a table needs those alone that moves lead to.
        table = solve_game(T)[2]
        self.assertEqual(len(table), 10)
        fewer = 0
        for system, keywords, (value, _, table) in solved(CASES):
            if table is None or value == (1, 0):
                continue
            base = base_of(system, keywords["offline"])
            game = slow.game_by_hand(system, base, keywords["lookahead"])
            plan = {place: request for place, request, _, _ in table}
            # All other positions, too: a request may be made there if its moves lead back into the table.
            more = dict(plan)
            for place in game:
                for request in range(len(system[1])):
                    if place not in more and all(move[0] in more for move in game[place][request]):
                        more[place] = request
            made = slow.table_by_hand(game, value, more)
            self.assertIs(is_adversary_table(system, value, made, **keywords), True)
            fewer += len(table) < len(made)
        self.assertGreater(fewer, 5)

    def test_one_of_the_positions_is_a_first_one(self):
        # Only one position is left after the first request, and it keeps all rules by itself.
        system, offline = only_one(1), (ONE[0], ((0, 0),), 0)
        paying = (ONE[0], ((None, 3),), 0)
        self.assertIs(is_adversary_table(paying, (1, 0), (((1, (0, 1), ()), 0, 0, 0),), offline=offline), False)
        both = (((0, (0, 1), ()), 0, 0, 0), ((1, (0, 1), ()), 0, 0, 0))
        self.assertIs(is_adversary_table(paying, (1, 0), both, offline=offline), True)
        self.assertIs(is_adversary_table(system, (1, 0), both, offline=offline), False)
        # With look-ahead there are several first ones, and one of them is enough.
        never = (TWO[0], ((0, 0), (5, 5)), 0)
        free = {"offline": (TWO[0], ((0, 0), (0, 0)), 0), "lookahead": 1}
        table = tuple(((state, (0, 1), (1,)), 1, 0, 0) for state in (0, 1))
        self.assertIs(is_adversary_table(never, (1, 0), table, **free), True)
        table = (((0, (0, 1), (0,)), 1, 0, 1),) + table
        self.assertIs(is_adversary_table(never, (1, 0), table, **free), True)
        self.assertIs(is_adversary_table(never, (1, 0), table[:2], **free), False)

    def test_positions_that_are_not_reachable(self):
        # (1, (0, 0)) is a game position that no moves lead to.
        more = (((0, (0, 0), ()), 1, -9, 0),) + HARD
        self.assertIs(is_adversary_table(A, (1, 1), more), False)
        self.assertIs(is_adversary_table(A, (1, 1), HARD + (((2, (0, 1), ()), 1, 0, 0),)), False)
        self.assertIs(is_adversary_table(A, (1, 1), HARD, lookahead=1), False)
        self.assertIs(is_adversary_table(A, (1, 1), HARD, offline=T), False)

    def test_levels_of_moves_without_cost_and_increase(self):
        # Request 0 is free for all; a table may not go on with it for ever.
        system = (TWO[0], ((0, 0), (1, 1)), 0)
        stay, swap = (0, (0, 1), ()), (1, (0, 1), ())
        for one, other, expected in (
            ((stay, 1, 0, 0), (swap, 1, 0, 0), True), ((stay, 0, 0, 0), (swap, 1, 0, 0), False),
            ((stay, 1, 0, 0), (swap, 0, 0, 0), False), ((stay, 0, 0, 5), (swap, 0, 0, 4), False),
            ((stay, 0, 0, 0), (swap, 0, 0, 0), False), ((stay, 1, 0, -3), (swap, 1, 0, 10**49), True),
        ):
            self.assertIs(is_adversary_table(system, (1, 1), (one, other)), expected)

    def test_levels_for_infinity(self):
        # The system pays for both requests; the offline system pays for request 0 alone.
        system = (ONE[0], ((3, 3), (5, 5)), 0)
        offline = (ONE[0], ((1, 1), (0, 0)), 0)
        one, other = (0, (0, 1), ()), (1, (0, 1), ())
        for first, second, expected in (
            ((one, 1, 0, 0), (other, 1, 0, 0), True), ((one, 1, 9, 0), (other, 1, -9, 0), True),
            ((one, 1, 0, 1), (other, 1, 0, 0), False), ((one, 0, 0, 0), (other, 1, 0, 0), False),
            ((one, 0, 0, 1), (other, 1, 0, 0), False), ((one, 0, 0, 1), (other, 0, 0, 0), False),
        ):
            self.assertIs(is_adversary_table(system, (1, 0), (first, second), offline=offline), expected)
        # One move only: it pays once, so that the level must fall, and then is free, or pays for ever.
        once = (ONE[0], ((None, 0), (None, 4)), 0)
        for first, second, expected in (
            ((one, 1, 0, 0), (other, 1, 0, 0), True), ((one, 0, 0, 1), (other, 1, 0, 0), True),
            ((one, 0, 0, 0), (other, 1, 0, 0), False), ((one, 0, 0, 0), (other, 1, 0, -1), True),
            ((one, 1, 0, -1), (other, 1, 0, 0), False), ((one, 1, 0, 0), (other, 0, 0, 0), False),
        ):
            self.assertIs(is_adversary_table(once, (1, 0), (first, second), offline=offline), expected)

    def test_numbers_for_infinity(self):
        # Request 0 costs nothing for anybody in state 1; the numbers say how often it may be made.
        system = (ONE[0], ((None, 0), (None, 4)), 0)
        offline = (ONE[0], ((0, 0), (0, 0)), 0)
        one, other = (0, (0, 1), ()), (1, (0, 1), ())
        for first, second, expected in (
            ((one, 0, 0, 0), (other, 1, 0, 0), True), ((one, 0, 0, 0), (other, 0, 0, 0), False),
            ((one, 0, 9, 0), (other, 1, 9, 0), True), ((one, 0, 9, 1), (other, 0, 5, 0), False),
        ):
            self.assertIs(is_adversary_table(system, (1, 0), (first, second), offline=offline), expected)
        # With look-ahead the free request is served first, and then the one that is paid for.
        place = {(state, known): (state, (0, 1), (known,)) for state in (0, 1) for known in (0, 1)}

        def table(first, second):
            return (
                (place[0, 0], 1, *first), (place[1, 0], 1, *second), (place[1, 1], 1, 0, 0),
            )

        for first, second, expected in (
            ((1, 0), (1, 0), True), ((0, 0), (1, 0), True), ((1, 0), (0, 0), False), ((1, 0), (0, 1), True),
            ((1, 0), (-5, 1), True), ((1, 0), (9, -1), False), ((1, -1), (1, 0), False),
        ):
            found = is_adversary_table(system, (1, 0), table(first, second), offline=offline, lookahead=1)
            self.assertIs(found, expected, (first, second))

    def test_none_for_zero(self):
        for system in (A, TWO, PAYING):
            for table in (HARD, (), HARD[:1], solve_game(A)[2]):
                self.assertIs(is_adversary_table(system, (0, 1), table), False)
        game = slow.game_by_hand(TWO, TWO, 0)
        self.assertIs(is_adversary_table(TWO, (1, 1), tuple((place, 0, 0, 0) for place in game)), False)

    def test_other_values(self):
        for value in (*ODD, *replacements(HARD[:2]), *replacements(HARD[2:]), list(HARD), HARD[::-1], HARD + HARD[:1]):
            self.assertIs(is_adversary_table(A, (1, 1), value), False, value)
        for odd in ODD + ([0], -1, 2):
            for at in (0, 1, 2, 3):
                if at < 2 or odd is None or type(odd) is not int:
                    entry = HARD[0][:at] + (odd,) + HARD[0][at + 1:]
                    self.assertIs(is_adversary_table(A, (1, 1), (entry,) + HARD[1:]), False, entry)
        falsely = (((False, (0, 1), ()), 1, 0, 0), (HARD[0][0], True, 0, 0))
        for entry in (HARD[0] + (0,), HARD[0][:3], list(HARD[0]), *falsely):
            self.assertIs(is_adversary_table(A, (1, 1), (entry,) + HARD[1:]), False, entry)

    def test_three_hundred_positions_and_more(self):
        system = only_one(1)
        fits, more = slide(297, 2), slide(298, 2)
        for value in (HARD, None, ()):
            self.assertIs(is_adversary_table(system, (1, 1), value, offline=fits), False)
            for ratio in RATIOS:
                assert_error(
                    self, TooLarge, ("limit", 300), is_adversary_table, system, ratio, value, offline=more
                )
        paying = (ONE[0], ((None, 9),), 0)
        offline = (((0, 297), (2, 0)), ((1, 0),), 0)
        value, _, table = solve_game(paying, offline=offline)
        self.assertEqual((value, len(table)), ((1, 0), 300))
        self.assertIs(is_adversary_table(paying, value, table, offline=offline), True)
        self.assertIs(is_adversary_table(paying, value, table[:-1], offline=offline), False)

    def test_errors(self):
        for value in (HARD, None, [1]):
            for ratio in NO_RATIOS:
                assert_error(self, InvalidNumber, ("value", ratio), is_adversary_table, A, ratio, value)
                many = {"offline": slides(500, 500, 2)}
                assert_error(self, InvalidNumber, ("value", ratio), is_adversary_table, A, ratio, value, **many)
                for odd in (-1, 3, None, True, "0", [0]):
                    kept = ("value", odd)
                    assert_error(self, InvalidNumber, kept, is_adversary_table, A, ratio, value, lookahead=odd, **many)
                assert_error(
                    self, InvalidOffline, None, is_adversary_table, A, ratio, value, offline=ONE, lookahead=3
                )
                assert_error(
                    self, InvalidSystem, None, is_adversary_table, A[:2], ratio, value, offline=ONE, lookahead=3
                )


class TestIsBestPolicy(unittest.TestCase):
    def test_examples(self):
        self.assertIs(is_best_policy(A, (1, 1), (MOVE, (0, 0))), True)
        self.assertIs(is_best_policy(A, (1, 0), (MOVE, (0, 0))), False)
        self.assertIs(is_best_policy(A, (1, 0), (STAY, (0, 0))), False)

    def test_returned_and_changed_ones(self):
        found = {True: 0, False: 0}
        for system, keywords, (value, best, _) in solved(CASES):
            if best is None:
                continue
            policy, potential = best
            self.assertIs(is_best_policy(system, value, best, **keywords), True)
            edges = slow.edges_by_hand(system, base_of(system, keywords["offline"]), policy)
            self.assertEqual(len(potential), len(edges))
            for at in list(range(len(potential)))[:10]:
                for step in (-1, 1):
                    changed = potential[:at] + (potential[at] + step,) + potential[at + 1:]
                    expected = slow.potential_holds(edges, value, changed)
                    self.assertIs(is_best_policy(system, value, (policy, changed), **keywords), expected)
                    found[expected] += 1
            self.assertIs(is_best_policy(system, value, (policy, potential[:-1]), **keywords), False)
            self.assertIs(is_best_policy(system, value, (policy, potential + (0,)), **keywords), False)
            for ratio in RATIOS:
                expected = ratio != (1, 0) and slow.potential_holds(edges, ratio, potential)
                self.assertIs(is_best_policy(system, ratio, best, **keywords), expected)
        self.assertGreater(min(found.values()), 30)

    def test_other_memories(self):
        rng = random.Random(104)
        for system, keywords, (value, best, _) in solved(CASES):
            if best is None:
                continue
            for policy in (renumbered(rng, best[0]), split_policy(rng, best[0]), reduced_policy(system, best[0])):
                ratio, potential, _ = ratio_certificate(system, policy, offline=keywords["offline"])
                self.assertEqual(ratio, value)
                self.assertIs(is_best_policy(system, value, (policy, potential), **keywords), True)

    def test_policies_that_are_not_the_best(self):
        # Each policy with a potential for the ratio is accepted, for the value or for a greater ratio.
        rng = random.Random(105)
        checked = 0
        for system, offline, lookahead in CASES:
            policy = random_policy(rng, system, lookahead, 4)
            ratio, potential, _ = ratio_certificate(system, policy, offline=offline)
            for p, q in RATIOS:
                if potential is not None and slow.is_less(ratio, (p, q)) and q > 0:
                    greater = tuple(number * q for number in potential)
                    greater = greater if ratio[1] == 1 else potential
                    expected = is_potential(system, policy, (p, q), greater, offline=offline)
                    found = is_best_policy(system, (p, q), (policy, greater), offline=offline, lookahead=lookahead)
                    self.assertIs(found, expected)
                    checked += expected
        self.assertGreater(checked, 20)

    def test_lookahead_of_the_policy(self):
        for lookahead in (0, 1, 2):
            policy = turning(1, lookahead, 2)
            for other in (0, 1, 2):
                value = (policy, (0,) * 2**lookahead)
                expected = lookahead == other
                self.assertIs(is_best_policy(TWO, (0, 1), value, lookahead=other), expected)

    def test_policies_of_the_system(self):
        self.assertIs(is_best_policy(A, (1, 1), (MOVE[:3] + (1,), (0, 0))), False)
        self.assertIs(is_best_policy(only_one(2), (1, 1), (STAY, (0, 0))), False)
        self.assertIs(is_best_policy(A, (2, 1), (MOVE, (0, 0)), offline=T), False)
        self.assertEqual(ratio_of(A, MOVE, offline=T), (2, 1))
        potential = ratio_certificate(A, MOVE, offline=T)[1]
        self.assertIs(is_best_policy(A, (2, 1), (MOVE, potential), offline=T), True)

    def test_thousand_positions_and_more(self):
        # There may be more than 300 game positions, which play no part here.
        self.assertIs(is_best_policy(ONE, (0, 1), (turning(1, 0, 1), (0,) * 1000), offline=slide(500, 499)), True)
        self.assertIs(is_best_policy(ONE, (0, 1), (turning(1, 0, 1), (0,) * 1001), offline=slide(500, 500)), False)
        self.assertIs(is_best_policy(ONE, (0, 1), (turning(1, 0, 1), (0,) * 1000), offline=slide(500, 500)), False)
        self.assertIs(is_best_policy(TWO, (0, 1), (turning(250, 2, 2), (0,) * 1000), lookahead=2), True)
        self.assertIs(is_best_policy(TWO, (0, 1), (turning(251, 2, 2), (0,) * 1004), lookahead=2), False)

    def test_other_values(self):
        valid = (MOVE, (0, 0))
        others = ((MOVE,), (MOVE, (0, 0), ()), (MOVE, None), (None, (0, 0)))
        for value in (*ODD, *replacements(valid), list(valid), *others):
            self.assertIs(is_best_policy(A, (1, 1), value), False, value)

    def test_errors(self):
        for value in ((MOVE, (0, 0)), None, [1]):
            for ratio in NO_RATIOS:
                assert_error(self, InvalidNumber, ("value", ratio), is_best_policy, A, ratio, value)
                for odd in (-1, 3, None, True, "0", [0]):
                    assert_error(self, InvalidNumber, ("value", odd), is_best_policy, A, ratio, value, lookahead=odd)
                assert_error(self, InvalidOffline, None, is_best_policy, A, ratio, value, offline=ONE, lookahead=3)
                assert_error(self, InvalidSystem, None, is_best_policy, A[:2], ratio, value, offline=ONE, lookahead=3)
            for ratio in RATIOS:
                found = is_best_policy(A, ratio, value, offline=slides(500, 500, 2))
                self.assertIs(found, False)


class TestIsGameSolution(unittest.TestCase):
    def test_other_ones_by_others(self):
        best = (MOVE, (3, 3))
        self.assertIs(is_game_solution(A, ((1, 1), best, HARD)), True)
        self.assertIs(is_game_solution(A, ((1, 1), (MOVE, (0, 1)), HARD)), False)
        self.assertIs(is_game_solution(A, ((1, 1), best, HARD[:3])), False)
        self.assertIs(is_game_solution(A, ((1, 1), None, HARD)), False)
        self.assertIs(is_game_solution(A, ((1, 1), best, None)), False)
        self.assertIs(is_game_solution(A, ((2, 1), best, HARD)), False)
        self.assertIs(is_game_solution(A, ((1, 2), best, HARD)), False)
        self.assertIs(is_game_solution(A, ((1, 0), None, HARD)), False)
        self.assertIs(is_game_solution(A, ((0, 1), best, None)), False)

    def test_zero_and_infinity(self):
        best = (STAY, (5,))
        self.assertIs(is_game_solution(TWO, ((0, 1), best, None)), True)
        self.assertIs(is_game_solution(TWO, ((0, 1), None, None)), False)
        self.assertIs(is_game_solution(TWO, ((0, 1), best, ())), False)
        self.assertIs(is_game_solution(TWO, ((1, 1), best, None)), False)
        table = (((0, (0, 1), ()), 0, 0, 0), ((1, (0, 1), ()), 0, 0, 0))
        self.assertIs(is_game_solution(PAYING, ((1, 0), None, table), offline=TWO), True)
        self.assertIs(is_game_solution(PAYING, ((1, 0), None, None), offline=TWO), False)
        self.assertIs(is_game_solution(PAYING, ((1, 0), best, table), offline=TWO), False)
        self.assertIs(is_game_solution(PAYING, ((1, 0), (), table), offline=TWO), False)
        self.assertIs(is_game_solution(PAYING, ((1, 0), None, table)), False)

    def test_returned_and_changed_ones(self):
        rng = random.Random(106)
        found = {True: 0, False: 0}
        for system, keywords, solution in solved(CASES):
            value, best, table = solution
            self.assertIs(is_game_solution(system, solution, **keywords), True)
            for ratio in RATIOS:
                if ratio != value:
                    self.assertIs(is_game_solution(system, (ratio, best, table), **keywords), False)
            changed = []
            if best is not None:
                for policy in (renumbered(rng, best[0]), split_policy(rng, best[0])):
                    potential = ratio_certificate(system, policy, offline=keywords["offline"])[1]
                    changed.append((value, (policy, potential), table))
                numbers = best[1]
                changed += [
                    (value, (best[0], numbers[:at] + (numbers[at] + step,) + numbers[at + 1:]), table)
                    for at in (0, len(numbers) - 1) for step in (-1, 1)
                ]
            if table is not None:
                changed += [(value, best, other) for other in list(changed_entries(rng, len(system[1]), table))[:30]]
            for one in changed:
                expected = best is None or is_best_policy(system, value, one[1], **keywords)
                expected = expected and (table is None or is_adversary_table(system, value, one[2], **keywords))
                self.assertIs(is_game_solution(system, one, **keywords), expected)
                found[expected] += 1
        self.assertGreater(min(found.values()), 100)

    def test_other_values(self):
        valid = ((1, 1), (MOVE, (0, 0)), HARD)
        self.assertIs(is_game_solution(A, valid), True)
        # The numbers of the table have no part in these odd values, since some levels may be any integer.
        for value in (*ODD, *replacements(valid, ODD[:12]), list(valid), valid[:2], valid + (None,)):
            if repr(value) != repr(valid):
                self.assertIs(is_game_solution(A, value), False, value)
        self.assertIs(is_game_solution(A, ((1, True), *valid[1:])), False)

    def test_limits(self):
        # 300 game positions and more, and a policy with a thousand positions and more.
        offline, many = slide(297, 2), slide(298, 2)
        self.assertIs(is_game_solution(only_one(1), solve_game(only_one(1), offline=offline), offline=offline), True)
        for value in (None, ((0, 1), (STAY, (0,)), None), 3):
            assert_error(self, TooLarge, ("limit", 300), is_game_solution, only_one(1), value, offline=many)
        for length in (250, 251):
            value = ((0, 1), (turning(length, 2, 2), (0,) * (4 * length)), None)
            self.assertIs(is_game_solution(TWO, value, lookahead=2), length == 250)

    def test_errors(self):
        for value in (((1, 1), (MOVE, (0, 0)), HARD), None, [1]):
            for odd in (-1, 3, None, True, "0", [0]):
                many = {"offline": slides(500, 500, 2)}
                assert_error(self, InvalidNumber, ("value", odd), is_game_solution, A, value, lookahead=odd, **many)
                assert_error(self, InvalidOffline, None, is_game_solution, A, value, lookahead=odd, offline=ONE)
                assert_error(self, InvalidSystem, None, is_game_solution, A[:2], value, lookahead=odd, offline=ONE)


if __name__ == "__main__":
    unittest.main()
