"""Stage 14: a service."""

import copy
import random
import unittest

from hindcost.errors import (
    InvalidNumber, InvalidOffline, InvalidOperation, InvalidPolicy, InvalidSystem, NothingToUndo, PendingRequests,
    TooLarge, UnknownRequest,
)
from hindcost.policies.runs import run_schedule
from hindcost.ratios.fractions import compare_ratios, make_fraction
from hindcost.ratios.ratios import ratio_of
from hindcost.ratios.surcharges import surcharge_of
from hindcost.schedules.schedules import optimum
from hindcost.service import service as module
from hindcost.service.service import Service
from hindcost.systems.systems import is_system
from tests import slow
from tests.helpers import (
    A, MOVE, ODD, ONE, STAY, T, TWO, all_schedules, assert_error, cost_by_hand, only_one, random_policy, random_system,
    replacements, slide, slides, turning,
)

REPORTS = (
    "cost", "optimum", "current_ratio", "guarantee", "slack", "schedule", "best_schedule", "pending", "memory",
    "current_state", "log",
)

# Policies of A and T with look-ahead 1 and 2: they go where the second request of the window is cheap, if there is one.
AHEAD = (1, (0, 1), ((0, 1, 0, 1, 0, 1),) * 2, 0)
FURTHER = (2, (0, 1), ((0, 1, 0, 1, 0, 1, 0, 0, 1, 1, 0, 0, 1, 1),) * 2, 0)
# As many requests as A and T have, three states, another start.
OTHER = (((0, 2, 3), (2, 0, 1), (3, 1, 0)), ((1, 0, 4), (None, 3, 0)), 2)


def reports(service):
    """All that the service tells of itself."""
    return (len(service), str(service), *(getattr(service, name)() for name in REPORTS))


def perform(service, operation):
    """Perform an operation that is written as in the log."""
    word, *rest = operation
    if word == "begin":
        return service.begin(rest[0], rest[1], offline=rest[2])
    return getattr(service, word)(*rest)


def played(created, log):
    """A new service on which the operations of the log were performed."""
    service = Service(created[0], created[1], offline=created[2])
    for operation in log:
        perform(service, operation)
    return service


def sum_of(first, second):
    return make_fraction(first[0] * second[1] + second[0] * first[1], first[1] * second[1])


class Count:
    """What a service must tell of itself, counted from its log by the words of stage 14."""

    def __init__(self, created, log):
        self.paid = self.least_before = self.served = 0
        self.set_phase(*created)
        for operation in log:
            getattr(self, "do_" + operation[0])(*operation[1:])
        self.log = tuple(log)

    def set_phase(self, system, policy, offline):
        self.system, self.base = system, system if offline is None else offline
        self.arrived, self.states, self.waiting = (), (), ()
        self.set_segment(policy)

    def set_segment(self, policy):
        self.policy, self.held, self.closed = policy, policy[3], False
        form = slow.first_form(self.base)
        for request in self.arrived:
            form, _ = slow.form_step(self.base, form, request)
        self.begun = (form, self.paid, self.least())

    def least(self):
        return self.least_before + slow.optimum_by_hand(self.base, self.arrived)

    def serve(self):
        self.held, cost = slow.serve(self.system, self.policy, self.held, self.waiting)
        self.paid += cost
        self.served += 1
        self.states += (self.policy[1][self.held],)
        self.waiting = self.waiting[1:]

    def do_arrive(self, request):
        assert not self.closed
        self.arrived += (request,)
        self.waiting += (request,)
        if len(self.waiting) > self.policy[0]:
            self.serve()

    def do_finish(self):
        while self.waiting:
            self.serve()
            self.closed = True

    def do_replace(self, policy):
        assert not self.waiting
        self.paid += self.system[0][self.policy[1][self.held]][self.system[2]]
        self.set_segment(policy)

    def do_begin(self, system, policy, offline):
        assert not self.waiting
        self.least_before = self.least()
        self.set_phase(system, policy, offline)

    def best(self):
        rows = all_schedules(self.base, self.arrived)
        return min(rows, key=lambda row: (cost_by_hand(self.base, self.arrived, row), row))

    def guarantee(self):
        form, paid, least = self.begun
        ratio = ratio_of(self.system, self.policy, offline=self.base, form=form)
        if ratio == (1, 0):
            return ratio, None, None
        surcharge = surcharge_of(self.system, self.policy, ratio, offline=self.base, form=form)
        part = make_fraction(ratio[0] * (self.least() - least), ratio[1])
        p, q = sum_of(sum_of((paid, 1), part), surcharge)
        return ratio, (p, q), make_fraction(p - q * self.paid, q)

    def reports(self):
        text = (
            f"service: {self.served} served, {len(self.waiting)} pending, cost {self.paid}, optimum {self.least()}"
        )
        return (
            self.served, text, self.paid, self.least(), *self.guarantee(), self.states, self.best(), self.waiting,
            self.held, self.policy[1][self.held], self.log,
        )


def random_phase(rng):
    """A system, a policy and an offline system or None, with few positions."""
    system = random_system(rng, rng.choice((2, 3)), rng.choice((1, 2, 2, 3)))
    lookahead = rng.choice((0, 0, 1, 2))
    policy = random_policy(rng, system, lookahead, rng.choice((2, 3)))
    offline = random_system(rng, 2, len(system[1])) if rng.random() < 0.4 else None
    return system, policy, offline


def random_operation(rng, service, system):
    """An operation that is possible now."""
    if service.pending():
        choice = rng.choice(("arrive", "arrive", "arrive", "finish"))
    else:
        choice = rng.choice(("arrive",) * 6 + ("finish", "replace", "begin"))
    if choice == "arrive":
        return ("arrive", rng.randrange(len(system[1])))
    if choice == "finish":
        return ("finish",)
    if choice == "replace":
        return ("replace", random_policy(rng, system, rng.choice((0, 1, 2)), rng.choice((2, 3))))
    return ("begin", *random_phase(rng))


def random_scripts(seed, count, length):
    """Scripts of operations that are possible one after another, with what the service was created with."""
    rng = random.Random(seed)
    for _ in range(count):
        created = random_phase(rng)
        service = Service(created[0], created[1], offline=created[2])
        system = created[0]
        log = []
        arrivals = 0
        while len(log) < length:
            operation = random_operation(rng, service, system)
            # Few arrivals in a phase, so that all schedules can be compared.
            if operation[0] == "arrive" and arrivals == 7:
                operation = ("finish",) if service.pending() else ("begin", *random_phase(rng))
            try:
                perform(service, operation)
            except InvalidOperation:
                continue
            log.append(operation)
            arrivals += operation[0] == "arrive"
            if operation[0] == "begin":
                system = operation[1]
                arrivals = 0
        yield created, log


SCRIPTS = list(random_scripts(141, 60, 14))


class TestExamples(unittest.TestCase):
    def test_new(self):
        service = Service(T, MOVE)
        self.assertEqual([len(service), str(service)], [0, "service: 0 served, 0 pending, cost 0, optimum 0"])
        self.assertEqual(module.MAX_ARRIVALS, 400)

    def test_arrive_and_finish(self):
        service = Service(T, MOVE)
        found = [service.arrive(1), service.arrive(0), service.finish(), service.cost(), service.optimum()]
        self.assertEqual(found, [1, 1, 0, 4, 1])

    def test_replace(self):
        service = Service(T, MOVE)
        service.arrive(1)
        self.assertIsNone(service.replace(STAY))
        self.assertEqual([service.cost(), service.current_state(), service.current_ratio()], [4, 0, (1, 0)])

    def test_undo(self):
        service = Service(T, MOVE)
        service.arrive(1)
        service.arrive(0)
        self.assertEqual([service.undo(), service.cost(), service.undo(count=1), service.cost()], [1, 2, 0, 0])

    def test_guarantee(self):
        service = Service(T, MOVE)
        service.arrive(1)
        found = [service.cost(), service.optimum(), service.current_ratio(), service.guarantee(), service.slack()]
        self.assertEqual(found, [2, 1, (4, 1), (4, 1), (2, 1)])

    def test_schedules(self):
        service = Service(T, MOVE)
        service.arrive(1)
        service.arrive(1)
        found = [service.schedule(), service.best_schedule(), service.memory(), service.log()]
        self.assertEqual(found, [(1, 1), (0, 0), 1, (("arrive", 1), ("arrive", 1))])


class TestArrivals(unittest.TestCase):
    def test_without_look_ahead(self):
        service = Service(A, MOVE)
        self.assertEqual([service.arrive(r) for r in (1, 1, 0)], [1, 1, 1])
        self.assertEqual((service.schedule(), service.pending(), len(service)), ((1, 1, 0), (), 3))
        self.assertEqual((service.finish(), len(service)), (0, 3))
        # Nothing was pending, so the service is not closed.
        self.assertEqual(service.arrive(1), 1)

    def test_look_ahead_of_one(self):
        service = Service(A, AHEAD)
        self.assertEqual([service.arrive(r) for r in (1, 0)], [0, 1])
        # The window was (1, 0).
        self.assertEqual((service.schedule(), service.pending(), service.cost()), ((0,), (0,), 2))
        self.assertEqual(service.arrive(1), 1)
        self.assertEqual((service.schedule(), service.pending()), ((0, 1), (1,)))
        self.assertEqual(service.finish(), 1)
        self.assertEqual((service.schedule(), service.pending()), ((0, 1, 1), ()))

    def test_look_ahead_of_two(self):
        service = Service(A, FURTHER)
        self.assertEqual([service.arrive(r) for r in (1, 0, 1)], [0, 0, 1])
        self.assertEqual((service.schedule(), service.pending()), ((0,), (0, 1)))
        self.assertEqual((service.finish(), service.schedule(), len(service)), (2, (0, 1, 1), 3))

    def test_the_whole_run(self):
        rng = random.Random(142)
        for lookahead in (0, 1, 2):
            for _ in range(10):
                system = random_system(rng, 3, 2)
                policy = random_policy(rng, system, lookahead, 3)
                try:
                    service = Service(system, policy)
                except TooLarge:
                    continue
                sequence = tuple(rng.randrange(2) for _ in range(rng.choice((0, 1, 2, 3, 20))))
                for request in sequence:
                    service.arrive(request)
                self.assertEqual(len(service), max(len(sequence) - lookahead, 0))
                self.assertEqual(service.optimum(), optimum(system, sequence))
                self.assertEqual(service.finish(), min(lookahead, len(sequence)))
                self.assertEqual(service.schedule(), run_schedule(system, policy, sequence))
                self.assertEqual(service.optimum(), optimum(system, sequence))

    def test_the_optimum_counts_pending_requests(self):
        service = Service(A, FURTHER)
        service.arrive(1)
        self.assertEqual((service.cost(), service.optimum(), service.best_schedule()), (0, 1, (1,)))
        service.arrive(1)
        self.assertEqual((service.cost(), service.optimum(), service.best_schedule()), (0, 1, (1, 1)))

    def test_closed(self):
        for policy, sequence in ((AHEAD, (1,)), (AHEAD, (1, 0, 1)), (FURTHER, (0,)), (FURTHER, (0, 1, 1, 1))):
            service = Service(A, policy)
            for request in sequence:
                service.arrive(request)
            self.assertGreater(service.finish(), 0)
            before = reports(service)
            for request in (0, 1, 2, None, [0]):
                assert_error(self, InvalidOperation, None, service.arrive, request)
            self.assertEqual(reports(service), before)
            # Finishing once more is possible, and the service stays closed.
            self.assertEqual(service.finish(), 0)
            assert_error(self, InvalidOperation, None, service.arrive, 0)
            for operation in (("replace", policy), ("replace", MOVE), ("begin", A, policy, None)):
                perform(service, operation)
                self.assertEqual(service.arrive(0), int(operation[1] == MOVE))
                service.undo(count=2)
                assert_error(self, InvalidOperation, None, service.arrive, 0)
            service.undo(count=1)
            assert_error(self, InvalidOperation, None, service.arrive, 0)
            self.assertEqual(service.undo(), len(sequence))
            # The requests are pending again, and further ones may arrive.
            self.assertEqual(service.arrive(0), int(len(sequence) >= policy[0]))

    def test_finishing_without_pending_requests(self):
        service = Service(A, FURTHER)
        self.assertEqual([service.finish(), service.finish()], [0, 0])
        self.assertEqual(service.log(), (("finish",), ("finish",)))
        self.assertEqual([service.arrive(0), service.arrive(0), service.arrive(0)], [0, 0, 1])

    def test_four_hundred_arrivals(self):
        for policy in (MOVE, AHEAD, FURTHER):
            service = Service(A, policy)
            for at in range(400):
                service.arrive(at % 2)
                if at == 200 and policy == MOVE:
                    service.finish()
                    service.replace(MOVE)
            before = reports(service)
            for request in (0, 1):
                assert_error(self, TooLarge, ("limit", 400), service.arrive, request)
            for odd in ODD + (2, -1):
                assert_error(self, UnknownRequest, ("request", odd), service.arrive, odd)
            self.assertEqual(reports(service), before)
            # One of the arrivals undone, there is room for one.
            service.undo()
            service.arrive(0)
            assert_error(self, TooLarge, ("limit", 400), service.arrive, 0)
            if service.finish() > 0:
                assert_error(self, InvalidOperation, None, service.arrive, 0)
            # A replaced policy begins no phase.
            service.replace(STAY)
            assert_error(self, TooLarge, ("limit", 400), service.arrive, 0)
            self.assertEqual(len(service.best_schedule()), 400)
            service.begin(A, MOVE)
            self.assertEqual((service.arrive(1), service.schedule(), len(service)), (1, (1,), 401))
            self.assertEqual(service.best_schedule(), (1,))

    def test_the_limit_of_a_later_phase(self):
        service = Service(ONE, (0, (0,), ((0,),), 0))
        for _ in range(2):
            for _ in range(400):
                service.arrive(0)
            assert_error(self, TooLarge, ("limit", 400), service.arrive, 0)
            service.begin(ONE, (0, (0,), ((0,),), 0))
        self.assertEqual(len(service), 800)

    def test_unknown_requests(self):
        service = Service(A, AHEAD)
        service.arrive(1)
        before = reports(service)
        for odd in ODD + (2, 3, -1, (1,), [1]):
            assert_error(self, UnknownRequest, ("request", odd), service.arrive, odd)
        self.assertEqual(reports(service), before)
        service.finish()
        service.begin((A[0], A[1] * 2, 0), turning(1, 0, 4))
        self.assertEqual([service.arrive(request) for request in (3, 2)], [1, 1])
        assert_error(self, UnknownRequest, ("request", 4), service.arrive, 4)


class TestReplacing(unittest.TestCase):
    def test_the_switch_is_paid(self):
        system = (((0, 3), (5, 0)), A[1], 1)
        move = (0, (0, 1), ((0, 1), (0, 1)), 1)
        service = Service(system, move)
        service.arrive(0)
        self.assertEqual(service.cost(), 5)
        service.replace(move)
        self.assertEqual((service.cost(), service.memory(), service.current_state()), (8, 1, 1))
        # From the start to the start nothing is paid.
        service.replace((0, (0, 0, 1), ((0, 2), (0, 2), (0, 2)), 2))
        self.assertEqual((service.cost(), service.memory(), service.current_state()), (8, 2, 1))

    def test_the_schedule_goes_on(self):
        service = Service(T, MOVE)
        service.arrive(1)
        service.replace(STAY)
        service.arrive(1)
        service.replace(MOVE)
        service.arrive(1)
        self.assertEqual((service.schedule(), service.best_schedule(), len(service)), ((1, 0, 1), (1, 1, 1), 3))
        self.assertEqual((service.cost(), service.optimum()), (2 + 2 + 1 + 2, 2))

    def test_another_look_ahead(self):
        service = Service(A, AHEAD)
        service.arrive(1)
        service.finish()
        service.replace(FURTHER)
        self.assertEqual([service.arrive(r) for r in (1, 1, 0)], [0, 0, 1])
        service.finish()
        service.replace(MOVE)
        self.assertEqual([service.arrive(r) for r in (1, 0)], [1, 1])
        self.assertEqual(service.schedule(), (1, 1, 0, 0, 1, 0))

    def test_the_form_of_the_segment(self):
        # The offline system goes step by step through its forms and pays for two of the steps.
        system = (TWO[0], ((0, 1), (0, 1)), 0)
        offline = (((0, 3), (3, 0)), ((1, 0), (0, 0)), 0)
        stay = (0, (0,), ((0, 0),), 0)
        service = Service(system, stay, offline=offline)
        for request in (0, 0, 0, 0, 0, 0, 0, 0, 1):
            service.arrive(request)
            service.replace(stay)
            found = Count((system, stay, offline), service.log())
            self.assertEqual(reports(service)[4:7], found.guarantee())

    def test_the_surcharge_of_a_later_form(self):
        service = Service(T, MOVE)
        for _ in range(4):
            service.arrive(1)
        # The form is (2, 0) now: one more request 1 costs the optimum nothing, and the policy the switch.
        self.assertEqual((service.cost(), service.optimum(), service.guarantee()), (2, 2, (8, 1)))
        service.replace(MOVE)
        self.assertEqual((service.cost(), service.guarantee(), service.slack()), (4, (6, 1), (2, 1)))
        service.arrive(1)
        self.assertEqual((service.cost(), service.guarantee(), service.slack()), (6, (6, 1), (0, 1)))
        # A new phase begins with the first form.
        service.begin(T, MOVE)
        self.assertEqual((service.guarantee(), service.slack()), ((6, 1), (0, 1)))

    def test_reachable_positions_with_the_form_of_the_segment(self):
        # The forms are passed one after another; in the last one all memories are reached.
        offline = slide(500, 490)
        system = only_one(1)

        def turn(length):
            states = (0,) + (1,) * length
            return (0, states, tuple((at + 1 if at < length else 1,) for at in range(length + 1)), 0)

        service = Service(system, turn(10), offline=offline)
        before = reports(service)
        assert_error(self, TooLarge, ("limit", 1000), Service, system, turn(11), offline=offline)
        assert_error(self, TooLarge, ("limit", 1000), service.replace, turn(11))
        assert_error(self, TooLarge, ("limit", 1000), service.begin, system, turn(11), offline=offline)
        self.assertEqual(reports(service), before)
        service.arrive(0)
        service.replace(turn(11))
        assert_error(self, TooLarge, ("limit", 1000), service.replace, turn(12))
        assert_error(self, TooLarge, ("limit", 1000), service.begin, system, turn(11), offline=offline)
        for _ in range(89):
            service.arrive(0)
        service.replace(turn(100))
        assert_error(self, TooLarge, ("limit", 1000), service.replace, turn(101))
        # An invalid policy is noticed first.
        assert_error(self, InvalidPolicy, None, service.replace, turn(101)[:3] + (1,))

    def test_pending_requests(self):
        service = Service(A, FURTHER)
        for request in (1, 0, 1):
            service.arrive(request)
            before = reports(service)
            for policy in (MOVE, FURTHER, STAY, None, MOVE[:3], turning(1, 0, 1)):
                assert_error(self, PendingRequests, None, service.replace, policy)
                for system, offline in ((A, None), (A, T), (None, None), (A, ONE)):
                    assert_error(self, PendingRequests, None, service.begin, system, policy, offline=offline)
            self.assertEqual(reports(service), before)
        service.finish()
        service.replace(MOVE)

    def test_invalid_policies(self):
        service = Service(A, MOVE)
        service.arrive(1)
        before = reports(service)
        for odd in ODD + (list(MOVE), MOVE[:3], MOVE[:3] + (1,), turning(1, 0, 1), turning(1, 0, 3)):
            assert_error(self, InvalidPolicy, None, service.replace, odd)
        for odd in replacements(MOVE):
            assert_error(self, InvalidPolicy, None, service.replace, odd)
        self.assertEqual(reports(service), before)


class TestPhases(unittest.TestCase):
    def test_another_system(self):
        service = Service(T, MOVE)
        service.arrive(1)
        self.assertIsNone(service.begin(OTHER, (0, (2, 1), ((1, 0),) * 2, 0), offline=A))
        # The service begins at the start of the system, for nothing.
        self.assertEqual((service.cost(), service.optimum(), service.current_state()), (2, 1, 2))
        self.assertEqual((service.schedule(), service.best_schedule(), len(service)), ((), (), 1))
        self.assertEqual([service.arrive(0), service.arrive(1)], [1, 1])
        self.assertEqual((service.schedule(), service.cost(), service.optimum()), ((1, 2), 2 + 1 + 1, 1 + 1))
        # The best schedule is that of the offline system.
        self.assertEqual(service.best_schedule(), (0, 1))

    def test_forms_begin_anew(self):
        service = Service(A, MOVE)
        for request in (1, 1, 1):
            service.arrive(request)
        service.begin(A, MOVE)
        service.arrive(1)
        self.assertEqual((service.cost(), service.optimum()), (2, 2))
        service.replace(MOVE)
        service.arrive(1)
        self.assertEqual((service.cost(), service.optimum()), (4, 2))

    def test_guarantees_of_later_segments(self):
        service = Service(T, MOVE)
        service.arrive(1)
        service.begin(T, MOVE)
        self.assertEqual((service.guarantee(), service.slack()), ((2, 1), (0, 1)))
        service.arrive(1)
        self.assertEqual((service.guarantee(), service.slack()), ((6, 1), (2, 1)))
        service.replace(MOVE)
        # The form is (0, 1) now: the first request for state 0 is free for the optimum, the switch is not.
        expected = sum_of((6, 1), surcharge_of(T, MOVE, (4, 1), form=(0, 1)))
        self.assertEqual((service.cost(), service.current_ratio(), service.guarantee()), (6, (4, 1), expected))

    def test_errors(self):
        service = Service(A, MOVE)
        service.arrive(1)
        before = reports(service)
        for odd in ODD + (A[:2], list(A)):
            assert_error(self, InvalidSystem, None, service.begin, odd, odd, offline=odd)
            assert_error(self, InvalidSystem, None, service.begin, odd, MOVE)
            if odd is not None:
                assert_error(self, InvalidOffline, None, service.begin, A, odd, offline=odd)
        assert_error(self, InvalidOffline, None, service.begin, A, None, offline=ONE)
        for odd in ODD + (list(MOVE), MOVE[:3], turning(1, 0, 1)):
            for offline in (None, A, T):
                assert_error(self, InvalidPolicy, None, service.begin, A, odd, offline=offline)
        assert_error(self, TooLarge, ("limit", 1000), service.begin, A, MOVE, offline=slides(500, 500, 2))
        assert_error(self, InvalidPolicy, None, service.begin, A, MOVE[:3], offline=slides(500, 500, 2))
        self.assertEqual(reports(service), before)


class TestNew(unittest.TestCase):
    def test_errors(self):
        for odd in ODD + (A[:2], list(A)):
            assert_error(self, InvalidSystem, None, Service, odd, odd, offline=odd)
            assert_error(self, InvalidSystem, None, Service, odd, MOVE)
            if odd is not None:
                assert_error(self, InvalidOffline, None, Service, A, odd, offline=odd)
        for odd in [value for value in replacements(A) if not is_system(value)]:
            assert_error(self, InvalidSystem, None, Service, odd, MOVE, offline=odd)
            assert_error(self, InvalidOffline, None, Service, A, MOVE, offline=odd)
        assert_error(self, InvalidOffline, None, Service, A, None, offline=ONE)
        for odd in ODD + (list(MOVE), MOVE[:3], turning(1, 0, 1)):
            for offline in (None, A, T, OTHER):
                assert_error(self, InvalidPolicy, None, Service, A, odd, offline=offline)
        assert_error(self, TooLarge, ("limit", 1000), Service, A, MOVE, offline=slides(500, 500, 2))
        assert_error(self, InvalidPolicy, None, Service, A, MOVE[:3], offline=slides(500, 500, 2))

    def test_keywords(self):
        with self.assertRaises(TypeError):
            Service(A, MOVE, T)
        with self.assertRaises(TypeError):
            Service(A, MOVE).begin(A, MOVE, T)
        with self.assertRaises(TypeError):
            Service(A, MOVE).undo(1)

    def test_infinite_ratio(self):
        service = Service(A, STAY)
        self.assertEqual((service.current_ratio(), service.guarantee(), service.slack()), ((1, 0), None, None))
        service.replace(MOVE)
        self.assertEqual((service.current_ratio(), service.guarantee(), service.slack()), ((1, 1), (0, 1), (0, 1)))

    def test_ratio_zero(self):
        service = Service(TWO, turning(1, 0, 2), offline=T)
        service.arrive(1)
        self.assertEqual((service.current_ratio(), service.guarantee(), service.slack()), ((0, 1),) * 3)
        self.assertEqual((service.cost(), service.optimum()), (0, 1))


class TestScripts(unittest.TestCase):
    def test_all_moments_against_a_slow_count(self):
        kinds = set()
        for created, log in SCRIPTS:
            service = Service(created[0], created[1], offline=created[2])
            for at in range(len(log) + 1):
                self.assertEqual(reports(service), Count(created, log[:at]).reports())
                guarantee = service.guarantee()
                if guarantee is not None:
                    self.assertGreaterEqual(compare_ratios(guarantee, (service.cost(), 1)), 0)
                kinds.add((service.current_ratio() == (1, 0), service.slack() == (0, 1), bool(service.pending())))
                if at < len(log):
                    kinds.add(log[at][0])
                    perform(service, log[at])
        self.assertGreaterEqual(len(kinds), 10)

    def test_results_of_operations(self):
        for created, log in SCRIPTS:
            service = Service(created[0], created[1], offline=created[2])
            for operation in log:
                served = len(service)
                result = perform(service, operation)
                if operation[0] in ("arrive", "finish"):
                    self.assertEqual(result, len(service) - served)
                else:
                    self.assertIsNone(result)

    def test_undo_restores_everything(self):
        rng = random.Random(143)
        for created, log in SCRIPTS:
            told = []
            service = Service(created[0], created[1], offline=created[2])
            for operation in log:
                told.append(reports(service))
                perform(service, operation)
                # Each single operation is undone and done again.
                self.assertEqual(service.undo(), len(told) - 1)
                self.assertEqual(reports(service), told[-1])
                perform(service, operation)
            told.append(reports(service))
            kept = len(log)
            while kept > 0:
                count = rng.randrange(0, min(kept, 5) + 1)
                kept -= count
                self.assertEqual(service.undo(count=count), kept)
                self.assertEqual(reports(service), told[kept])
                self.assertEqual(service, played(created, log[:kept]))
            self.assertEqual(reports(service), reports(Service(created[0], created[1], offline=created[2])))

    def test_going_on_after_undo(self):
        rng = random.Random(144)
        for created, log in SCRIPTS:
            service = played(created, log)
            count = rng.randrange(len(log) + 1)
            service.undo(count=count)
            for operation in log[len(log) - count:]:
                perform(service, operation)
            self.assertEqual(reports(service), reports(played(created, log)))
            self.assertEqual(service, played(created, log))

    def test_the_log_is_in_its_words(self):
        words = set()
        for created, log in SCRIPTS:
            service = played(created, log)
            self.assertEqual(service.log(), tuple(log))
            self.assertIs(type(service.log()), tuple)
            for operation in service.log():
                self.assertIs(type(operation), tuple)
                words.add((operation[0], len(operation)))
        self.assertEqual(words, {("arrive", 2), ("finish", 1), ("replace", 2), ("begin", 4)})

    def test_reports_change_nothing(self):
        for created, log in SCRIPTS[:20]:
            service = played(created, log)
            first = reports(service)
            before = copy.deepcopy((created, log))
            self.assertEqual(reports(service), first)
            self.assertEqual((created, log), before)
            self.assertEqual(len(service.schedule()) <= len(service), True)


class TestUndo(unittest.TestCase):
    def test_counts(self):
        service = Service(T, MOVE)
        for request in (1, 0, 1, 1):
            service.arrive(request)
        self.assertEqual(service.undo(count=0), 4)
        self.assertEqual(service.undo(count=2), 2)
        self.assertEqual((service.log(), service.cost()), ((("arrive", 1), ("arrive", 0)), 4))
        before = reports(service)
        for count in (3, 4, 400, 10**49, 10**50 - 1):
            assert_error(self, NothingToUndo, ("count", count), service.undo, count=count)
        for count in (-1, -2, True, False, None, "1", "", (1,), [1], {}, (), -(10**49)):
            assert_error(self, InvalidNumber, ("value", count), service.undo, count=count)
        self.assertEqual(reports(service), before)
        self.assertEqual(service.undo(count=2), 0)
        self.assertEqual(reports(service), reports(Service(T, MOVE)))

    def test_nothing_to_undo(self):
        service = Service(T, MOVE)
        self.assertEqual(service.undo(count=0), 0)
        assert_error(self, NothingToUndo, ("count", 1), service.undo)
        assert_error(self, NothingToUndo, ("count", 1), service.undo, count=1)
        assert_error(self, InvalidNumber, ("value", -1), service.undo, count=-1)
        self.assertEqual(reports(service), reports(Service(T, MOVE)))

    def test_each_kind_of_operation(self):
        service = Service(A, AHEAD)
        before = [reports(service)]
        for operation in (
            ("arrive", 1), ("arrive", 1), ("finish",), ("finish",), ("replace", MOVE), ("arrive", 1), ("finish",),
            ("replace", MOVE), ("begin", T, MOVE, OTHER), ("arrive", 1), ("begin", A, STAY, None),
        ):
            perform(service, operation)
            before.append(reports(service))
        while len(before) > 1:
            self.assertEqual(reports(service), before.pop())
            self.assertEqual(service.undo(), len(before) - 1)
        self.assertEqual(reports(service), before[0])

    def test_long_logs(self):
        service = Service(T, MOVE)
        for _ in range(4):
            for at in range(400):
                service.arrive(at * at % 3 % 2)
            service.begin(T, MOVE)
        told = reports(service)
        self.assertEqual(service.undo(count=1500), 104)
        self.assertEqual(len(service), 104)
        for operation in told[-1][104:]:
            perform(service, operation)
        self.assertEqual(reports(service), told)


class TestEquality(unittest.TestCase):
    def test_arguments(self):
        self.assertEqual(Service(T, MOVE), Service(T, MOVE))
        self.assertEqual(Service(T, MOVE), Service(T, MOVE, offline=None))
        self.assertEqual(Service(A, MOVE, offline=T), Service(A, MOVE, offline=copy.deepcopy(T)))
        different = [
            Service(T, MOVE), Service(A, MOVE), Service(T, STAY), Service(T, MOVE, offline=T),
            Service(A, MOVE, offline=T), Service(T, MOVE, offline=A), Service(T, AHEAD),
        ]
        for at, one in enumerate(different):
            for other_at, other in enumerate(different):
                self.assertIs(one == other, at == other_at)
                self.assertIs(one != other, at != other_at)

    def test_logs(self):
        logs = [
            (), (("finish",),), (("arrive", 1),), (("arrive", 0),), (("arrive", 1), ("arrive", 1)),
            (("arrive", 1), ("finish",)), (("replace", MOVE),), (("replace", STAY),), (("begin", A, MOVE, None),),
            (("begin", A, MOVE, A),), (("begin", A, MOVE, T),), (("begin", T, MOVE, None),),
            (("begin", A, STAY, None),),
        ]
        for at, one in enumerate(logs):
            for other_at, other in enumerate(logs):
                same = played((A, MOVE, None), one) == played((A, MOVE, None), other)
                self.assertIs(same, at == other_at)

    def test_equal_after_undo(self):
        service = Service(A, MOVE)
        service.arrive(1)
        self.assertNotEqual(service, Service(A, MOVE))
        service.undo()
        self.assertEqual(service, Service(A, MOVE))
        # Different ways to the same log.
        service.replace(STAY)
        service.undo()
        service.arrive(0)
        self.assertEqual(service, played((A, MOVE, None), (("arrive", 0),)))

    def test_other_values(self):
        service = Service(A, MOVE)
        for value in ODD + (A, MOVE, (A, MOVE, None), 0, str(service), service.log(), Service, object()):
            self.assertIs(service == value, False)
            self.assertIs(service != value, True)
        self.assertIs(service == service, True)


class TestKept(unittest.TestCase):
    def test_texts(self):
        service = Service(A, AHEAD)
        texts = [str(service)]
        for operation in (("arrive", 1), ("arrive", 0), ("finish",), ("replace", MOVE), ("begin", T, MOVE, None)):
            perform(service, operation)
            texts.append(str(service))
        self.assertEqual(texts, [
            "service: 0 served, 0 pending, cost 0, optimum 0",
            "service: 0 served, 1 pending, cost 0, optimum 1",
            "service: 1 served, 1 pending, cost 2, optimum 2",
            "service: 2 served, 0 pending, cost 2, optimum 2",
            "service: 2 served, 0 pending, cost 2, optimum 2",
            "service: 2 served, 0 pending, cost 2, optimum 2",
        ])

    def test_results_are_tuples_and_integers(self):
        service = played((A, AHEAD, T), (("arrive", 1), ("arrive", 0), ("finish",), ("replace", MOVE)))
        for name in ("guarantee", "slack", "current_ratio", "schedule", "best_schedule", "pending", "log"):
            self.assertIs(type(getattr(service, name)()), tuple)
        for name in ("cost", "optimum", "memory", "current_state"):
            self.assertIs(type(getattr(service, name)()), int)

    def test_two_services_are_independent(self):
        one, other = Service(A, MOVE), Service(A, MOVE)
        one.arrive(1)
        self.assertEqual(reports(other), reports(Service(A, MOVE)))


if __name__ == "__main__":
    unittest.main()
