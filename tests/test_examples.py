"""Every example of the document: each line with `>>>` is run, and has the result that stands below it, if one does."""

import importlib
import unittest

from tests.test_interface import CLASSES, INTERFACE

EXAMPLES = """
>>> A = (((0, 1), (1, 0)), ((0, 2), (2, 0)), 0)
>>> MOVE = (0, (0, 1), ((0, 1), (0, 1)), 0)
>>> STAY = (0, (0,), ((0, 0),), 0)
>>> T = (((0, 2), (2, 0)), ((0, 1), (1, 0)), 0)
>>> [is_system(A), is_system((A[0], A[1], 2)), is_system((((0, 5), (1, 0)), ((None, None),), 0))]
[True, False, False]
>>> (state_count(A), request_count(A))
(2, 2)
>>> switching_cost(A, 0, 1)
1
>>> [request_cost(A, 1, 0), request_cost((A[0], ((None, 4),), 0), 0, 0)]
[2, None]
>>> [allowed_states(A, 0), allowed_states((A[0], ((None, 4),), 0), 0)]
[(0, 1), (1,)]
>>> [is_sequence(A, (0, 1, 1)), is_sequence(A, (2,)), is_sequence(A, [0])]
[True, False, False]
>>> switching_from_steps(3, ((0, 1, 2), (1, 2, 3), (2, 0, 4)))
((0, 2, 5), (7, 0, 3), (4, 6, 0))
>>> [is_schedule(A, (1, 0), (1, 1)), is_schedule(A, (1, 0), (1,))]
[True, False]
>>> [schedule_cost(A, (1, 0, 1), (0, 0, 0)), schedule_cost(A, (1, 0, 1), (1, 1, 1))]
[4, 3]
>>> (optimum(A, (1, 0, 1)), best_schedule(A, (1, 0, 1)), best_schedule_count(A, (1, 0, 1)))
(3, (0, 0, 1), 3)
>>> prefix_optima(A, (1, 0, 1))
(0, 1, 2, 3)
>>> [first_work(A), is_work(A, (5, 4)), is_work(A, (0, 2))]
[(0, 1), True, False]
>>> [next_work(A, (0, 1), 1), work_after(A, (1, 0))]
[(2, 1), (2, 3)]
>>> form_of(A, (2, 1))
((1, 0), 1)
>>> [is_form(A, (1, 0)), next_form(A, (1, 0), 1), next_form(A, (1, 0), 0)]
[True, ((1, 0), 0), ((0, 1), 1)]
>>> reachable_forms(A)
((0, 1), (1, 0))
>>> [sequence_to_form(A, (1, 0)), sequence_to_form(A, (0, 0))]
[(1,), None]
>>> windows(A, 1)
((0,), (1,), (0, 0), (0, 1), (1, 0), (1, 1))
>>> [is_policy(A, MOVE), is_policy(A, MOVE[:3] + (1,))]
[True, False]
>>> next_memory(A, MOVE, 0, (1,))
1
>>> (run_memories(A, MOVE, (1, 0, 1)), run_schedule(A, STAY, (1, 0, 1)), run_cost(A, MOVE, (1, 0, 1)))
((1, 0, 1), (0, 0, 0), 3)
>>> reduced_policy(A, (0, (1, 0, 0), ((0, 0), (2, 2), (1, 1)), 1))
(0, (0,), ((0, 0),), 0)
>>> [different_run(A, MOVE, STAY), different_run(A, MOVE, MOVE)]
[(1,), None]
>>> first_positions(A, MOVE)
((0, (0, 1), ()),)
>>> arrive(A, MOVE, (0, (0, 1), ()), 1)
((1, (1, 0), ()), 1, 1)
>>> [position_after(A, STAY, (1, 1)), finish(A, STAY, (0, (1, 0), ()))]
[(0, (1, 0), ()), (0, 0)]
>>> reachable_positions(A, STAY)
((0, (0, 1), ()), (0, (1, 0), ()))
>>> [is_ratio((2, 4)), make_fraction(2, 4), compare_ratios((3, 1), (1, 0))]
[False, (1, 2), -1]
>>> [ratio_of(A, MOVE), ratio_of(A, STAY)]
[(1, 1), (1, 0)]
>>> ratio_certificate(A, STAY)[:2]
((1, 0), None)
>>> [is_potential(A, MOVE, (1, 1), (0, 0)), is_trap(A, MOVE, (1, 1), ((), (1, 0))), is_trap(A, STAY, (1, 0), ((1,), (1,)))]
[True, True, True]
>>> surplus_of(A, MOVE, (1, 2), (1, 0))
2
>>> surcharge_of(A, MOVE, (1, 1))
(0, 1)
>>> [is_surcharge_certificate(A, MOVE, (1, 1), ((0, 1), (1,), (0, 0))), is_surcharge_certificate(A, MOVE, (1, 1), ((0, 1), (), (1, 0)))]
[True, False]
>>> reachable_pairs(A, MOVE, STAY)
((0, 0, ()), (1, 0, ()))
>>> [excess_of(A, MOVE, STAY), excess_of(A, STAY, MOVE), is_excess_certificate(A, STAY, MOVE, (None, ((1,), (1,)), None))]
[0, None, True]
>>> [factor_of(A, MOVE, STAY), factor_of(A, STAY, MOVE)]
[(1, 1), (1, 0)]
>>> HARD = (((0, (0, 1), ()), 1, 0, 0), ((0, (1, 0), ()), 1, 0, 0), ((1, (0, 1), ()), 0, 0, 0), ((1, (1, 0), ()), 0, 0, 0))
>>> game_positions(A)
((0, (0, 1), ()), (0, (1, 0), ()), (1, (0, 1), ()), (1, (1, 0), ()))
>>> [is_game_position(A, (1, (0, 1), ())), is_game_position(A, (2, (0, 1), ())), is_game_position(A, (0, (0, 1), (1,)), lookahead=1)]
[True, False, True]
>>> game_moves(A, (0, (0, 1), ()), 1)
(((0, (1, 0), ()), 2, 1), ((1, (1, 0), ()), 1, 1))
>>> [value_of(A), value_of(T)]
[(1, 1), (5, 2)]
>>> value, best, adversary = solve_game(T)
>>> [value, ratio_of(T, best[0])]
[(5, 2), (5, 2)]
>>> [is_best_policy(A, (1, 1), (MOVE, (0, 0))), is_adversary_table(A, (1, 1), HARD), is_adversary_table(A, (2, 1), HARD)]
[True, True, False]
>>> cache_states(3, 2)
((0, 1), (0, 2), (1, 2))
>>> [cache_system(3, 2), cache_system(2, 1, weights=(1, 5))[0]]
[(((0, 1, 1), (1, 0, 1), (1, 1, 0)), ((0, 0, None), (0, None, 0), (None, 0, 0)), 0), ((0, 5), (1, 0))]
>>> cache_policy(3, 2, "lru")
(0, (0, 0, 2, 1, 1, 2), ((1, 0, 2), (1, 0, 3), (4, 5, 2), (4, 5, 3), (4, 0, 3), (1, 5, 2)), 0)
>>> list_states(3)
((0, 1, 2), (0, 2, 1), (1, 0, 2), (1, 2, 0), (2, 0, 1), (2, 1, 0))
>>> list_system(2)
(((0, 1), (1, 0)), ((1, 2), (2, 1)), 0)
>>> list_policy(2, "front")
(0, (0, 1), ((0, 1), (0, 1)), 0)
>>> server_states(2, 2)
((0, 0), (0, 1), (0, 2), (1, 1), (1, 2), (2, 2))
>>> server_system(1, 1)
(((0, 1), (1, 0)), ((0, None), (None, 0)), 0)
>>> server_policy(2, 2, "double")
(0, (0, 1, 2, 3, 4), ((0, 1, 2), (1, 1, 2), (2, 3, 2), (1, 3, 4), (2, 4, 4)), 0)
>>> device_system((3, 1), (4,))
(((0, 1), (4, 0)), ((0, None), (3, 1)), 0)
>>> device_policy((2,))
(0, (0, 0, 0, 1), ((0, 1), (0, 2), (0, 3), (0, 3)), 0)
>>> migration_system(((0, 1), (1, 0)), 2)
(((0, 2), (2, 0)), ((0, 1), (1, 0)), 0)
>>> migration_policy(2, 2)
(0, (0, 0, 1, 1), ((0, 1), (0, 2), (3, 2), (0, 2)), 0)
>>> scaled(A, 3)
(((0, 3), (3, 0)), ((0, 6), (6, 0)), 0)
>>> without_request(A, 0)
(((0, 1), (1, 0)), ((2, 0),), 0)
>>> with_request(A, (1, None))
(((0, 1), (1, 0)), ((0, 2), (2, 0), (1, None)), 0)
>>> with_start(A, 1)
(((0, 1), (1, 0)), ((0, 2), (2, 0)), 1)
>>> restricted(cache_system(3, 2), (0, 2))
(((0, 1), (1, 0)), ((0, None), (0, 0), (None, 0)), 0)
>>> product(A, A)
(((0, 1, 1, 2), (1, 0, 2, 1), (1, 2, 0, 1), (2, 1, 1, 0)), ((0, 0, 2, 2), (2, 2, 0, 0), (0, 2, 0, 2), (2, 0, 2, 0)), 0)
>>> side_by_side(A, MOVE, A, STAY)
(0, (0, 2), ((0, 1, 0, 0), (0, 1, 1, 1)), 0)
>>> service = Service(T, MOVE)
>>> [len(service), str(service)]
[0, 'service: 0 served, 0 pending, cost 0, optimum 0']
>>> service = Service(T, MOVE)
>>> [service.arrive(1), service.arrive(0), service.finish(), service.cost(), service.optimum()]
[1, 1, 0, 4, 1]
>>> service = Service(T, MOVE)
>>> service.arrive(1)
>>> service.replace(STAY)
>>> [service.cost(), service.current_state(), service.current_ratio()]
[4, 0, (1, 0)]
>>> service = Service(T, MOVE)
>>> service.arrive(1)
>>> service.arrive(0)
>>> [service.undo(), service.cost(), service.undo(count=1), service.cost()]
[1, 2, 0, 0]
>>> service = Service(T, MOVE)
>>> service.arrive(1)
>>> [service.cost(), service.optimum(), service.current_ratio(), service.guarantee(), service.slack()]
[2, 1, (4, 1), (4, 1), (2, 1)]
>>> service = Service(T, MOVE)
>>> service.arrive(1)
>>> service.arrive(1)
>>> [service.schedule(), service.best_schedule(), service.memory(), service.log()]
[(1, 1), (0, 0), 1, (('arrive', 1), ('arrive', 1))]
>>> [format_numbers((0, 12)), format_numbers(()), parse_numbers("3 0")]
['0 12', '-', (3, 0)]
>>> format_system(server_system(1, 1))
'switch 0 1, 1 0; requests 0 ., . 0; start 0'
>>> format_policy(T, MOVE)
'lookahead 0; states 0 1; moves 0 1, 0 1; first 0'
>>> [format_ratio((5, 2)), parse_ratio("inf")]
['5/2', (1, 0)]
>>> shell = Shell()
>>> shell.run("cache 3 2")
>>> shell.run("use lru")
>>> [shell.run("ratio"), shell.run("cost 2 0 1")]
['2/1', '3']
>>> shell = Shell()
>>> shell.run_all(("list 2", "use front", "start", "arrive 1", "status"))
('ok', 'ok', 'ok', '1', 'service: 1 served, 0 pending, cost 2, optimum 2')
"""


def names_of_the_interface():
    """All names of the interface; no name stands for two things."""
    names = {}
    for path, (constants, functions) in INTERFACE.items():
        for name in (*constants, *functions):
            assert name not in names
            names[name] = getattr(importlib.import_module(path), name)
    for path, name in CLASSES:
        names[name] = getattr(importlib.import_module(path), name)
    return names


class TestExamples(unittest.TestCase):
    def test_examples(self):
        names = names_of_the_interface()
        lines = EXAMPLES.strip().split("\n") + [">>>"]
        checked = 0
        for line, below in zip(lines, lines[1:]):
            if line.startswith(">>>") and not below.startswith(">>>"):
                self.assertEqual(eval(line[4:], names), eval(below, names), line)
                checked += 1
            elif line.startswith(">>> "):
                exec(line[4:], names)
        self.assertEqual(checked, 75)


if __name__ == "__main__":
    unittest.main()
