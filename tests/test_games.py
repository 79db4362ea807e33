"""Stage 9: game positions and moves."""

import unittest

from hindcost.errors import (
    InvalidNumber, InvalidOffline, InvalidPosition, InvalidSystem, TooLarge, UnknownRequest,
)
from hindcost.games import games
from hindcost.games.games import game_moves, game_positions, is_game_position
from tests import slow
from tests.helpers import A, EIGHT, ODD, ONE, T, TWO, assert_error, only_one, product_of, replacements, slides

CASES = list(slow.random_games(81, 60))
# Three states and another start, but as many requests as A.
WIDE = (((0, 2, 3), (2, 0, 1), (3, 1, 0)), ((1, 0, 4), (None, 3, 0)), 2)


def base_of(system, offline):
    return system if offline is None else offline


class TestGamePositions(unittest.TestCase):
    def test_example(self):
        found = game_positions(A)
        self.assertEqual(found, ((0, (0, 1), ()), (0, (1, 0), ()), (1, (0, 1), ()), (1, (1, 0), ())))
        self.assertEqual(games.MAX_GAME, 300)

    def test_by_hand(self):
        for system, offline, lookahead in CASES:
            found = game_positions(system, lookahead=lookahead, offline=offline)
            self.assertEqual(found, tuple(slow.game_by_hand(system, base_of(system, offline), lookahead)))

    def test_all_pending_requests_are_first(self):
        for lookahead in (0, 1, 2):
            found = game_positions(TWO, lookahead=lookahead)
            self.assertEqual(found, tuple(
                (state, (0, 1), pending) for state in (0, 1) for pending in product_of(2, lookahead)
            ))
        self.assertEqual(len(game_positions(EIGHT, lookahead=2)), 128)

    def test_own_system_changes_nothing(self):
        for system, _, lookahead in CASES:
            try:
                expected = game_positions(system, lookahead=lookahead)
            except TooLarge:
                continue
            self.assertEqual(game_positions(system, offline=system, lookahead=lookahead), expected)
            if lookahead == 0:
                self.assertEqual(game_positions(system), expected)

    def test_moves_to_states_that_are_not_allowed_reach_nothing(self):
        self.assertEqual(game_positions(only_one(1)), ((0, (0, 1), ()), (1, (1, 0), ())))

    def test_three_hundred_positions_and_more(self):
        kept = ("limit", 300)
        for requests in (1, 2):
            for lookahead in (0, 1, 2):
                # Each pair of a state and a form occurs with all tuples of pending requests.
                pairs = 300 // requests**lookahead
                system, fits, more = only_one(requests), slides(pairs - 3, 2, requests), slides(pairs - 2, 2, requests)
                self.assertEqual(len(game_positions(system, offline=fits, lookahead=lookahead)), 300)
                assert_error(self, TooLarge, kept, game_positions, system, offline=more, lookahead=lookahead)
        assert_error(self, TooLarge, kept, game_positions, A, offline=slides(500, 500, 2))

    def test_errors(self):
        for odd in ODD + (list(A), A[:2], (A[0], A[1], 2)):
            assert_error(self, InvalidSystem, None, game_positions, odd, offline=odd, lookahead=odd)
            if odd is not None:
                assert_error(self, InvalidOffline, None, game_positions, A, offline=odd, lookahead=odd)
        assert_error(self, InvalidOffline, None, game_positions, A, offline=ONE)
        for odd in ODD + (-1, 3, [0], (0,), "1"):
            assert_error(self, InvalidNumber, ("value", odd), game_positions, A, lookahead=odd)
            # The number is noticed before there are too many positions.
            offline = slides(500, 500, 2)
            assert_error(self, InvalidNumber, ("value", odd), game_positions, A, lookahead=odd, offline=offline)


class TestIsGamePosition(unittest.TestCase):
    def test_examples(self):
        found = [
            is_game_position(A, (1, (0, 1), ())), is_game_position(A, (2, (0, 1), ())),
            is_game_position(A, (0, (0, 1), (1,)), lookahead=1),
        ]
        self.assertEqual(found, [True, False, True])

    def test_reachable_or_not(self):
        self.assertNotIn((1, (0, 0), ()), game_positions(A))
        self.assertIs(is_game_position(A, (1, (0, 0), ())), True)
        self.assertIs(is_game_position(A, (1, (0, 2), ())), False)
        self.assertIs(is_game_position(A, (1, (0, 2), ()), offline=T), True)
        self.assertIs(is_game_position(A, (1, (3, 1, 0), ()), offline=WIDE), True)
        self.assertIs(is_game_position(A, (1, (0, 1), ()), offline=WIDE), False)
        self.assertIs(is_game_position(A, (2, (3, 1, 0), ()), offline=WIDE), False)
        # There is no limit of positions.
        self.assertIs(is_game_position(A, (1, (0, 500), ()), offline=slides(500, 500, 2)), True)

    def test_number_of_pending_requests(self):
        for lookahead in (0, 1, 2):
            for length in range(4):
                for pending in product_of(3, length):
                    expected = length == lookahead and 2 not in pending
                    self.assertIs(is_game_position(A, (1, (0, 1), pending), lookahead=lookahead), expected)

    def test_other_values(self):
        valid = (1, (0, 1), (0,))
        for value in (*ODD, *replacements(valid), list(valid), valid[:2], valid + (0,), (True, (0, 1), (0,))):
            self.assertIs(is_game_position(A, value, lookahead=1), False, value)

    def test_errors(self):
        for value in (None, (1, (0, 1), ())):
            for odd in ODD + (-1, 3):
                assert_error(self, InvalidNumber, ("value", odd), is_game_position, A, value, lookahead=odd)
                assert_error(self, InvalidSystem, None, is_game_position, odd, value, offline=odd, lookahead=odd)
                if odd is not None:
                    assert_error(self, InvalidOffline, None, is_game_position, A, value, offline=odd, lookahead=odd)


class TestGameMoves(unittest.TestCase):
    def test_example(self):
        expected = (((0, (1, 0), ()), 2, 1), ((1, (1, 0), ()), 1, 1))
        self.assertEqual(game_moves(A, (0, (0, 1), ()), 1), expected)

    def test_the_first_pending_request_is_served(self):
        expected = (((0, (1, 0), (0,)), 2, 1), ((1, (1, 0), (0,)), 1, 1))
        self.assertEqual(game_moves(A, (0, (0, 1), (1,)), 0, lookahead=1), expected)
        expected = (((0, (1, 0), (0, 1)), 3, 0), ((1, (1, 0), (0, 1)), 0, 0))
        self.assertEqual(game_moves(A, (1, (1, 0), (1, 0)), 1, lookahead=2), expected)

    def test_allowed_states_alone(self):
        self.assertEqual(game_moves(only_one(1), (0, (0, 1), ()), 0), (((1, (1, 0), ()), 1, 1),))
        # The states that are allowed for the arriving request play no part.
        system = (ONE[0], ((None, 3), (4, None)), 0)
        expected = (((1, (1, 0), (1,)), 4, 4),)
        self.assertEqual(game_moves(system, (0, (0, 1), (0,)), 1, lookahead=1), expected)

    def test_offline_system(self):
        expected = (((0, (3, 1, 0), ()), 3, 0), ((1, (3, 1, 0), ()), 0, 0))
        self.assertEqual(game_moves(A, (1, (3, 1, 0), ()), 1, offline=WIDE), expected)

    def test_by_hand_at_all_positions(self):
        for system, offline, lookahead in CASES:
            base = base_of(system, offline)
            for form in list(slow.all_forms(base, 2))[:6]:
                for state in range(len(system[0])):
                    for pending in product_of(len(system[1]), lookahead):
                        place = (state, form, pending)
                        for request in range(len(system[1])):
                            found = game_moves(system, place, request, offline=offline, lookahead=lookahead)
                            self.assertEqual(found, slow.moves_by_hand(system, base, place, request))

    def test_no_limit_of_positions(self):
        offline = slides(500, 500, 2)
        expected = (((0, (0, 499), ()), 2, 1), ((1, (0, 499), ()), 1, 1))
        self.assertEqual(game_moves(A, (0, (0, 500), ()), 1, offline=offline), expected)

    def test_errors(self):
        valid = (1, (0, 1), (0,))
        for value in (*ODD, *replacements(valid), list(valid), (2, (0, 1), (0,)), (1, (0, 2), (0,)), (1, (0, 1), ())):
            for request in (0, 2, None):
                assert_error(self, InvalidPosition, None, game_moves, A, value, request, lookahead=1)
            assert_error(self, InvalidNumber, ("value", 3), game_moves, A, value, 2, lookahead=3)
            assert_error(self, InvalidOffline, None, game_moves, A, value, 2, lookahead=3, offline=ONE)
            assert_error(self, InvalidSystem, None, game_moves, A[:2], value, 2, lookahead=3, offline=ONE)
        for request in ODD + (2, -1, (0,), [1]):
            assert_error(self, UnknownRequest, ("request", request), game_moves, A, valid, request, lookahead=1)


if __name__ == "__main__":
    unittest.main()
