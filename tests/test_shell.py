"""Stage 16: a shell."""

import itertools
import random
import unittest

from hindcost.errors import (
    BelowRatio, InvalidCommand, InvalidInstance, InvalidNumber, InvalidOffline, InvalidOperation, InvalidSequence,
    NothingToUndo, ParseError, TooLarge, UnknownRequest,
)
from hindcost.games.solver import value_of
from hindcost.instances.caches import cache_policy, cache_system
from hindcost.instances.lists import list_policy, list_system
from hindcost.instances.servers import server_policy, server_system
from hindcost.policies.runs import run_cost
from hindcost.ratios.ratios import ratio_of
from hindcost.ratios.surcharges import surcharge_of
from hindcost.schedules.schedules import best_schedule, optimum
from hindcost.service.service import Service
from hindcost.text.formats import format_numbers, format_policy, format_ratio, format_system
from hindcost.text.shell import Shell
from tests.helpers import A, MOVE, ODD, ONE, STAY, T, assert_error, slide, slides, turning

SYSTEM_A = "system " + format_system(A)
SYSTEM_T = "system " + format_system(T)
POLICY = "policy " + format_policy(A, MOVE)
STAYING = "policy " + format_policy(A, STAY)
OFFLINE_T = "offline " + format_system(T)

# How many words each command has behind the first one; None means at least one.
PARTS = {
    "system": None, "cache": 2, "list": 1, "servers": 2, "offline": None, "policy": None, "use": 1, "optimum": None,
    "best": None, "cost": None, "ratio": 0, "surcharge": 1, "value": 1, "start": 0, "arrive": 1, "finish": 0, "undo": 1,
    "status": 0, "slack": 0,
}
# For each command what it needs, in the words of the lists below.
NEEDS = {
    "system": (), "cache": (), "list": (), "servers": (), "offline": ("system",), "policy": ("system",),
    "use": ("instance",), "optimum": ("system",), "best": ("system",), "cost": ("system", "policy"),
    "ratio": ("system", "policy"), "surcharge": ("system", "policy"), "value": ("system",),
    "start": ("system", "policy"), "arrive": ("service",), "finish": ("service",), "undo": ("service",),
    "status": ("service",), "slack": ("service",),
}
# A line for each command that is right for a list of two items with the policy "front".
LINES = {
    "system": SYSTEM_T, "cache": "cache 3 2", "list": "list 3", "servers": "servers 2 2", "offline": OFFLINE_T,
    "policy": POLICY, "use": "use stay", "optimum": "optimum 1 0", "best": "best 1 1", "cost": "cost 1 0 0",
    "ratio": "ratio", "surcharge": "surcharge 4/3", "value": "value 0", "start": "start", "arrive": "arrive 1",
    "finish": "finish", "undo": "undo 0", "status": "status", "slack": "slack",
}


def shell_after(*lines):
    shell = Shell()
    shell.run_all(lines)
    return shell


STATES = {
    (): (),
    ("system",): (SYSTEM_A,),
    ("system", "instance"): ("list 2",),
    ("system", "policy"): (SYSTEM_A, POLICY),
    ("system", "instance", "policy"): ("list 2", "use front"),
    ("system", "policy", "service"): (SYSTEM_A, POLICY, "start"),
    ("system", "instance", "policy", "service"): ("list 2", "use front", "start"),
}

# What a shell can tell of itself, with the result, or the error where something is missing.
PROBES = (
    "status", "slack", "ratio", "value 0", "optimum 1 0 1", "best 1 0 1", "cost 1 0 1", "use front", "use lru", "start",
)


def told(lines):
    """What a shell tells after the lines: the result of each probe on a shell of its own."""
    found = []
    for probe in PROBES:
        shell = shell_after(*lines)
        try:
            found.append(shell.run(probe))
        except (InvalidCommand, InvalidInstance) as error:
            found.append(type(error))
    return found


class ShellTest(unittest.TestCase):
    def check_refused(self, lines, line, error, kept=None):
        """The line raises the error after the lines, and leaves the shell as it was."""
        shell = shell_after(*lines)
        with self.subTest(lines=lines, line=line):
            assert_error(self, error, kept, shell.run, line)
            self.assertEqual((len(shell), shell.log()), (len(lines), tuple(lines)))
            for probe in PROBES:
                other = shell_after(*lines)
                with self.assertRaises(error):
                    other.run(line)
                expected = shell_after(*lines)
                self.assertEqual(self.outcome(other, probe), self.outcome(expected, probe))

    def outcome(self, shell, line):
        try:
            return shell.run(line)
        except (InvalidCommand, InvalidInstance, TooLarge) as error:
            return type(error)


class TestExamples(ShellTest):
    def test_run(self):
        shell = Shell()
        self.assertEqual([shell.run("cache 3 2"), shell.run("use lru")], ["ok", "ok"])
        self.assertEqual([shell.run("ratio"), shell.run("cost 2 0 1")], ["2/1", "3"])

    def test_run_all(self):
        shell = Shell()
        self.assertEqual(
            shell.run_all(("list 2", "use front", "start", "arrive 1", "status")),
            ("ok", "ok", "ok", "1", "service: 1 served, 0 pending, cost 2, optimum 2"),
        )


class TestCommands(ShellTest):
    def test_systems(self):
        shell = Shell()
        for line, system in (
            (SYSTEM_A, A), ("cache 4 2", cache_system(4, 2)), ("list 3", list_system(3)),
            ("servers 3 2", server_system(3, 2)), (SYSTEM_T, T), ("list 2", list_system(2)),
        ):
            self.assertEqual(shell.run(line), "ok")
            many = len(system[1])
            for sequence in itertools.islice(itertools.product(range(many), repeat=4), 0, None, 7):
                self.assertEqual(shell.run("optimum " + format_numbers(sequence)), str(optimum(system, sequence)))
                self.assertEqual(
                    shell.run("best " + format_numbers(sequence)), format_numbers(best_schedule(system, sequence))
                )

    def test_empty_sequence(self):
        for line in (SYSTEM_A, "cache 3 2"):
            shell = shell_after(line)
            self.assertEqual([shell.run("optimum -"), shell.run("best -")], ["0", "-"])
        self.assertEqual(shell_after(SYSTEM_A, POLICY).run("cost -"), "0")

    def test_words_of_policies(self):
        cases = [("cache 4 3", (4, 3), cache_policy, cache_system, word) for word in (
            "lru", "mru", "fifo", "lifo", "marking", "farthest",
        )]
        cases += [("list 3", (3,), list_policy, list_system, word) for word in ("front", "transpose", "stay", "twice")]
        cases += [("servers 2 3", (2, 3), server_policy, server_system, word) for word in ("greedy", "double")]
        for line, numbers, make_policy, make_system, word in cases:
            shell = shell_after(line, "use " + word)
            system, policy = make_system(*numbers), make_policy(*numbers, word)
            self.assertEqual(shell.run("ratio"), format_ratio(ratio_of(system, policy)))
            self.assertEqual(shell.run("cost 2 0 1 2 2 0 1"), str(run_cost(system, policy, (2, 0, 1, 2, 2, 0, 1))))
            self.assertEqual(shell.run("policy " + format_policy(system, policy)), "ok")
            self.assertEqual(shell.run("cost 2 0 1 2 2 0 1"), str(run_cost(system, policy, (2, 0, 1, 2, 2, 0, 1))))

    def test_policies(self):
        shell = shell_after(SYSTEM_A, POLICY)
        self.assertEqual([shell.run("ratio"), shell.run("cost 1 1 0")], ["1/1", "2"])
        self.assertEqual(shell.run(STAYING), "ok")
        self.assertEqual([shell.run("ratio"), shell.run("cost 1 1 0")], ["inf", "4"])
        self.assertEqual(shell.run("policy " + format_policy(A, turning(1, 2, 2))), "ok")
        self.assertEqual(shell.run("cost 1 1 0"), "4")

    def test_offline(self):
        shell = shell_after(SYSTEM_A, POLICY, OFFLINE_T)
        self.assertEqual(shell.run("ratio"), format_ratio(ratio_of(A, MOVE, offline=T)))
        self.assertEqual(shell.run("value 0"), format_ratio(value_of(A, offline=T)))
        self.assertEqual(shell.run("value 1"), format_ratio(value_of(A, offline=T, lookahead=1)))
        self.assertEqual(shell.run("surcharge 7/3"), format_ratio(surcharge_of(A, MOVE, (7, 3), offline=T)))
        # The optimum, the best schedule and the cost are those of the system itself.
        self.assertEqual([shell.run("optimum 1 1"), shell.run("best 1 1"), shell.run("cost 1 1")], ["1", "1 1", "1"])
        shell.run("start")
        self.assertEqual([shell.run("arrive 1"), shell.run("slack")], ["1", "1/1"])
        self.assertEqual(shell.run("offline none"), "ok")
        self.assertEqual([shell.run("ratio"), shell.run("value 0")], ["1/1", "1/1"])
        # The offline system may have another number of states.
        other = (((0, 2, 3), (2, 0, 1), (3, 1, 0)), ((1, 0, 4), (None, 3, 0)), 2)
        self.assertEqual(shell.run("offline " + format_system(other)), "ok")
        self.assertEqual(shell.run("ratio"), format_ratio(ratio_of(A, MOVE, offline=other)))

    def test_values(self):
        shell = shell_after(SYSTEM_T)
        for lookahead in (0, 1, 2):
            self.assertEqual(shell.run(f"value {lookahead}"), format_ratio(value_of(T, lookahead=lookahead)))
        free = "offline " + format_system((A[0], ((0, 0), (0, 0)), 0))
        self.assertEqual(shell_after(SYSTEM_A, free).run("value 0"), "inf")

    def test_surcharges(self):
        shell = shell_after(SYSTEM_A, POLICY, OFFLINE_T)
        for ratio in ((2, 1), (9, 4), (3, 1), (100, 1)):
            expected = format_ratio(surcharge_of(A, MOVE, ratio, offline=T))
            self.assertEqual(shell.run("surcharge " + format_ratio(ratio)), expected)

    def test_service(self):
        rng = random.Random(161)
        slacks = set()
        own = "offline " + format_system(list_system(2))
        for lines, offline in (((), None), ((OFFLINE_T,), T), ((own,), list_system(2))):
            shell = shell_after("list 2", "use front", *lines, "start")
            service = Service(list_system(2), list_policy(2, "front"), offline=offline)
            for _ in range(80):
                command = rng.choice(("arrive", "arrive", "arrive", "finish", "undo"))
                if command == "arrive":
                    request = rng.randrange(2)
                    self.assertEqual(shell.run(f"arrive {request}"), str(service.arrive(request)))
                elif command == "finish":
                    self.assertEqual(shell.run("finish"), str(service.finish()))
                else:
                    count = rng.randrange(min(3, len(service.log()) + 1))
                    self.assertEqual(shell.run(f"undo {count}"), str(service.undo(count=count)))
                self.assertEqual(shell.run("status"), str(service))
                slack = service.slack()
                self.assertEqual(shell.run("slack"), "none" if slack is None else format_ratio(slack))
                slacks.add(slack)
        self.assertIn(None, slacks)
        self.assertGreater(len(slacks), 4)

    def test_look_ahead_in_a_service(self):
        shell = shell_after(SYSTEM_A, "policy " + format_policy(A, turning(1, 2, 2)), "start")
        found = shell.run_all(("arrive 1", "arrive 0", "arrive 1", "finish", "finish"))
        self.assertEqual(found, ("0", "0", "1", "2", "0"))
        self.assertEqual(shell.run("slack"), "none")
        self.assertEqual(shell.run("status"), "service: 3 served, 0 pending, cost 4, optimum 3")
        assert_error(self, InvalidOperation, None, shell.run, "arrive 0")
        self.assertEqual([shell.run("undo 2"), shell.run("arrive 0")], ["3", "1"])

    def test_a_new_service_takes_the_place(self):
        shell = shell_after(SYSTEM_A, POLICY, "start", "arrive 1", "start")
        self.assertEqual(shell.run("status"), "service: 0 served, 0 pending, cost 0, optimum 0")

    def test_what_is_removed(self):
        full = ("list 2", OFFLINE_T, "use front", "start")
        for line in (SYSTEM_A, "cache 2 1", "list 2", "servers 1 1", SYSTEM_T):
            # The offline system, the policy and the service are gone.
            self.assertEqual(told(full + (line,)), told((line,)))
            self.assertEqual(told(full + (line,))[:3], [InvalidCommand] * 3)
        for line in ("offline none", OFFLINE_T, "policy " + format_policy(list_system(2), STAY), "use stay"):
            shell = shell_after(*full, line)
            for probe in ("status", "slack", "finish", "arrive 0", "undo 0"):
                assert_error(self, InvalidCommand, None, shell.run, probe)
            # The policy is still there, and the offline system if it was not removed.
            policy = {"use stay": STAY}.get(line, STAY if line.startswith("policy") else list_policy(2, "front"))
            offline = None if line == "offline none" else T
            self.assertEqual(shell.run("ratio"), format_ratio(ratio_of(list_system(2), policy, offline=offline)))
            self.assertEqual(shell.run("use transpose"), "ok")
        self.assertEqual(told(full + ("offline none",))[3], "4/3")
        # A system of its own is no instance, even if it is equal to one.
        shell = shell_after("list 2", "system " + format_system(list_system(2)))
        assert_error(self, InvalidCommand, None, shell.run, "use front")

    def test_an_instance_stays_one(self):
        for line in (OFFLINE_T, "offline none", "policy " + format_policy(list_system(2), STAY), "use stay"):
            self.assertEqual(shell_after("list 2", line).run("use front"), "ok")


class TestWords(ShellTest):
    def test_tables(self):
        self.assertEqual(set(LINES), set(PARTS))
        self.assertEqual(set(NEEDS), set(PARTS))
        full = ("list 2", "use front", "start")
        for word, line in LINES.items():
            shell = shell_after(*full)
            self.assertIs(type(shell.run(line)), str)
            self.assertEqual((len(shell), shell.log()), (4, full + (line,)))

    def test_numbers_of_words(self):
        full = ("list 2", "use front", "start")
        for word, parts in PARTS.items():
            for count in range(5):
                for filling in ("0", "", "x", "none"):
                    line = " ".join([word] + [filling] * count)
                    if not (count >= 1 if parts is None else count == parts):
                        self.check_refused(full, line, InvalidCommand)
                        self.check_refused((), line, InvalidCommand)
                    elif filling != "0" and parts != 0 and line != "offline none":
                        error = InvalidInstance if word == "use" and filling else ParseError
                        self.check_refused(full, line, error)

    def test_lines_that_are_no_commands(self):
        for state in STATES.values():
            for line in (
                "", " ", "  ", "Ratio", "RATIO", " ratio", "ratio\n", "ratios", "status,", "help", "exit", "-", "0",
                "ok", "replace", "begin", "pending", "cach 3 2", "cache3 2", "cache\t3 2", "Cache 3 2",
                "system=", "none",
            ):
                shell = shell_after(*state)
                assert_error(self, InvalidCommand, None, shell.run, line)
                self.assertEqual(shell.log(), state)

    def test_lines_that_are_no_strings(self):
        for state in ((), ("list 2", "use front", "start")):
            shell = shell_after(*state)
            for odd in ODD + (0, b"ratio", ("ratio",), ["ratio"], ("cache", 3, 2), {"ratio": 1}, A):
                if not isinstance(odd, str):
                    assert_error(self, InvalidCommand, None, shell.run, odd)
            self.assertEqual(shell.log(), state)

    def test_what_each_command_needs(self):
        for have, state in STATES.items():
            for word, line in LINES.items():
                missing = [need for need in NEEDS[word] if need not in have]
                if missing:
                    self.check_refused(state, line, InvalidCommand)
                    # What is missing is noticed before texts that are wrong.
                    if PARTS[word] != 0:
                        self.check_refused(state, " ".join([word] + ["", ""][:PARTS[word] or 1]), InvalidCommand)
                        self.check_refused(state, " ".join([word] + ["?", "?"][:PARTS[word] or 1]), InvalidCommand)
                else:
                    shell = shell_after(*state)
                    if word == "policy" or line == "surcharge 4/3":
                        line = {"policy": STAYING, "surcharge": "surcharge 2/1"}[word]
                    self.assertIs(type(shell.run(line)), str)


class TestTexts(ShellTest):
    FULL = ("list 2", "use front", "start")

    def test_numbers(self):
        wrong = (
            "", "-", "x", "01", "00", "+1", "-1", "1.0", "1_0", "0x1", "2,", ".", "inf", "1/2", "None", "1" * 51,
            "\u0662",
        )
        for word in ("list", "value", "arrive", "undo"):
            for text in wrong:
                self.check_refused(self.FULL, f"{word} {text}", ParseError)
        for word in ("cache", "servers"):
            for text in wrong:
                self.check_refused(self.FULL, f"{word} {text} 2", ParseError)
                self.check_refused(self.FULL, f"{word} 3 {text}", ParseError)
                # A number that is not a text comes before a number that is too great.
                self.check_refused(self.FULL, f"{word} 99 {text}", ParseError)
                self.check_refused(self.FULL, f"{word} {text} 99", ParseError)

    def test_sequences(self):
        for word in ("optimum", "best", "cost"):
            for text in (
                "", " ", "0 ", " 0", "0  1", "x", "0 x", "- -", "- 0", "0 -", "01", "0,1", "0 " + "1" * 51, "0 +1",
            ):
                self.check_refused(self.FULL, f"{word} {text}", ParseError)

    def test_empty_words(self):
        self.check_refused(self.FULL, "use ", ParseError)
        for line in ("use  ", "use front ", "use  front"):
            self.check_refused(self.FULL, line, InvalidCommand)
        for line in ("ratio ", "start ", "finish ", "status ", "slack ", "slack  "):
            self.check_refused(self.FULL, line, InvalidCommand)

    def test_systems(self):
        text = format_system(T)
        for wrong in (
            "", " ", "none", text + " ", " " + text, text.replace("; ", ";"), text.replace(", ", "  "),
            text + "; start 0", text[:-1] + "2", text.replace("2", "0"), "switch 0 1, 1 0",
        ):
            self.check_refused(self.FULL, f"system {wrong}", ParseError)
            if wrong != "none":
                self.check_refused(self.FULL, f"offline {wrong}", ParseError)
        self.check_refused(self.FULL, "offline none none", ParseError)
        self.check_refused(self.FULL, "offline  none", ParseError)
        self.check_refused(self.FULL, "offline None", ParseError)

    def test_policies(self):
        text = format_policy(A, MOVE)
        for wrong in ("", " ", "none", "lru", text + " ", " " + text, text[:-1] + "1", text.replace("; ", ", ")):
            self.check_refused(self.FULL, f"policy {wrong}", ParseError)
        # The policy of another system.
        self.check_refused(("cache 3 2", "use lru", "start"), f"policy {text}", ParseError)

    def test_ratios(self):
        for wrong in ("", "1", "2/4", "1/0", "0/2", "1/", "/1", "-1/2", "Inf", "1/2/3", "01/2", "-", "none"):
            self.check_refused(self.FULL, f"surcharge {wrong}", ParseError)


class TestPassedOn(ShellTest):
    FULL = ("list 2", "use front", "start")

    def test_instances(self):
        for line, value in (
            ("cache 1 1", 1), ("cache 6 1", 6), ("cache 3 0", 0), ("cache 3 3", 3), ("cache 9 9", 9), ("list 1", 1),
            ("list 4", 4), ("list " + "9" * 50, 10**50 - 1), ("servers 0 1", 0), ("servers 5 9", 5), ("servers 2 0", 0),
            ("servers 4 4", 4),
        ):
            self.check_refused(self.FULL, line, InvalidNumber, ("value", value))
        for line in ("servers 4 2", "servers 3 3"):
            self.check_refused(self.FULL, line, TooLarge, ("limit", 10))

    def test_words(self):
        for word in ("lru", "Front", "none", "-", "0", "fronts", "double", "front,"):
            self.check_refused(self.FULL, f"use {word}", InvalidInstance)
        self.check_refused(("cache 3 2",), "use front", InvalidInstance)
        self.check_refused(("servers 2 2",), "use farthest", InvalidInstance)

    def test_offline(self):
        for system in (ONE, cache_system(3, 2)):
            self.check_refused(self.FULL, "offline " + format_system(system), InvalidOffline)

    def test_sequences(self):
        long = " ".join(["0"] * 401)
        for word in ("optimum", "best", "cost"):
            for text in ("2", "0 2", "0 " + "9" * 50, long):
                self.check_refused(self.FULL, f"{word} {text}", InvalidSequence)
        self.assertEqual(shell_after(*self.FULL).run("cost " + long[2:]), "400")

    def test_ratios_and_surcharges(self):
        many = "offline " + format_system(slides(500, 500, 2))
        for line in ("ratio", "surcharge 1/1", "start"):
            self.check_refused((SYSTEM_A, POLICY, many), line, TooLarge, ("limit", 1000))
        self.check_refused((SYSTEM_A, POLICY, many), "value 0", TooLarge, ("limit", 300))
        self.check_refused(self.FULL, "surcharge inf", InvalidNumber, ("value", (1, 0)))
        self.check_refused((SYSTEM_A, POLICY, many), "surcharge inf", InvalidNumber, ("value", (1, 0)))
        self.check_refused(self.FULL, "surcharge 1/1", BelowRatio, ("ratio", (4, 3)))
        self.check_refused((SYSTEM_A, STAYING), "surcharge 5/1", BelowRatio, ("ratio", (1, 0)))
        for lookahead in (3, 4, 10**49):
            self.check_refused(self.FULL, f"value {lookahead}", InvalidNumber, ("value", lookahead))

    def test_surcharges_of_many_digits(self):
        # The first switch costs the policy 1000 and the optimum 1; then nothing is paid.
        system = (((0, 1000), (1, 0)), ((None, 0),), 0)
        policy = (0, (0, 1), ((1,), (1,)), 0)
        offline = (((0, 1), (1, 0)), ((None, 0),), 0)
        lines = (
            "system " + format_system(system), "policy " + format_policy(system, policy),
            "offline " + format_system(offline),
        )
        self.assertEqual(shell_after(*lines).run("surcharge 0/1"), "1000/1")
        self.assertEqual(shell_after(*lines).run("surcharge 1/1" + "0" * 47), "9" * 50 + "/1" + "0" * 47)
        for zeros in (48, 49):
            found = (10**(zeros + 3) - 1, 10**zeros)
            self.assertEqual(surcharge_of(system, policy, (1, 10**zeros), offline=offline), found)
            shell = shell_after(*lines)
            assert_error(self, InvalidNumber, ("value", found), shell.run, "surcharge 1/1" + "0" * zeros)
            self.assertEqual(shell.log(), lines)

    def test_service(self):
        self.check_refused(self.FULL, "arrive 2", UnknownRequest, ("request", 2))
        self.check_refused(self.FULL, "arrive " + "9" * 50, UnknownRequest, ("request", 10**50 - 1))
        self.check_refused(self.FULL, "undo 1", NothingToUndo, ("count", 1))
        self.check_refused(self.FULL + ("arrive 1",), "undo 2", NothingToUndo, ("count", 2))
        ahead = "policy " + format_policy(A, turning(1, 1, 2))
        self.check_refused((SYSTEM_A, ahead, "start", "arrive 1", "finish"), "arrive 1", InvalidOperation)
        full = ("list 2", "use front", "start") + ("arrive 0",) * 400
        shell = shell_after(*full)
        assert_error(self, TooLarge, ("limit", 400), shell.run, "arrive 0")
        self.assertEqual(len(shell), 403)

    def test_a_service_that_cannot_begin_leaves_the_old_one(self):
        shell = shell_after(SYSTEM_A, POLICY, "start", "arrive 1")
        assert_error(self, InvalidOffline, None, shell.run, "offline " + format_system(slide(2, 2)))
        assert_error(self, ParseError, None, shell.run, "policy x")
        self.assertEqual(shell.run("status"), "service: 1 served, 0 pending, cost 1, optimum 1")


class TestRunAll(ShellTest):
    def test_results(self):
        shell = Shell()
        self.assertEqual(shell.run_all(()), ())
        self.assertEqual(shell.run_all((SYSTEM_A, "optimum 1 1", POLICY, "ratio")), ("ok", "1", "ok", "1/1"))
        self.assertEqual(shell.run_all(("cost 1 1",)), ("1",))
        self.assertEqual(shell.log(), (SYSTEM_A, "optimum 1 1", POLICY, "ratio", "cost 1 1"))
        self.assertIs(type(shell.log()), tuple)

    def test_an_error_in_the_middle(self):
        shell = Shell()
        lines = (SYSTEM_A, POLICY, "start", "arrive 1", "arrive 2", "arrive 0")
        assert_error(self, UnknownRequest, ("request", 2), shell.run_all, lines)
        self.assertEqual((len(shell), shell.log()), (4, lines[:4]))
        self.assertEqual(shell.run("status"), "service: 1 served, 0 pending, cost 1, optimum 1")
        for wrong, error in (
            (None, InvalidCommand), ("help", InvalidCommand), ("cost x", ParseError), (0, InvalidCommand),
        ):
            shell = Shell()
            assert_error(self, error, None, shell.run_all, (SYSTEM_A, POLICY, wrong, "list 2"))
            self.assertEqual(shell.log(), (SYSTEM_A, POLICY))

    def test_values_that_are_no_tuples(self):
        for state in ((), ("list 2", "use front", "start")):
            shell = shell_after(*state)
            for odd in ODD + ([SYSTEM_A], "ratio", ["list 2"], {"list 2": 1}, 0):
                if not isinstance(odd, tuple):
                    assert_error(self, InvalidCommand, None, shell.run_all, odd)
            self.assertEqual(shell.log(), state)
        for odd in ((None,), ((),), ([0],), (True,), (("list 2",),), ("list 2", ("use front",))):
            shell = Shell()
            assert_error(self, InvalidCommand, None, shell.run_all, odd)
            self.assertEqual(len(shell), len(odd) - 1)

    def test_equal_calls(self):
        lines = ("servers 2 2", "use double", "ratio", "value 0", "start", "arrive 2", "arrive 1", "slack", "status")
        self.assertEqual(Shell().run_all(lines), Shell().run_all(lines))

    def test_two_shells_are_independent(self):
        one, other = Shell(), Shell()
        one.run("list 2")
        assert_error(self, InvalidCommand, None, other.run, "value 0")
        self.assertEqual((len(one), len(other)), (1, 0))


if __name__ == "__main__":
    unittest.main()
