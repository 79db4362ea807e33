"""The commands of a shell. What the shell holds is a dict, in which None stands for what is not there."""

from hindcost.errors import InvalidCommand, ParseError
from hindcost.games.solver import value_of
from hindcost.instances.caches import cache_policy, cache_system
from hindcost.instances.lists import list_policy, list_system
from hindcost.instances.servers import server_policy, server_system
from hindcost.policies.runs import run_cost
from hindcost.ratios.ratios import ratio_of
from hindcost.ratios.surcharges import surcharge_of
from hindcost.schedules.schedules import best_schedule, optimum
from hindcost.service.service import Service
from hindcost.systems.offline import offline_for
from hindcost.text.formats import (
    format_numbers, format_ratio, parse_numbers, parse_policy, parse_ratio, parse_system, read_number, read_numbers
)

DONE = "ok"
NO_TEXT = "none"


def hold_nothing():
    """Return what a new shell holds."""
    return {"system": None, "instance": None, "offline": None, "policy": None, "service": None}


def run_command(held, line):
    """Run the command and return its result."""
    if not isinstance(line, str):
        raise InvalidCommand("not a string")
    word, _, text = line.partition(" ")
    if word not in ACTIONS:
        raise InvalidCommand("not a command")
    if not fits_parts(PARTS[word], line.count(" ")):
        raise InvalidCommand("not the right number of words for the command")
    if word in NEEDS and held[NEEDS[word]] is None:
        raise InvalidCommand("the command needs something that is not there")
    action = ACTIONS[word]
    return action(held, text)


def fits_parts(expected, count):
    """Return whether a command may have so many words behind the first one; None means at least one."""
    return count >= 1 if expected is None else count == expected


def set_system(held, text):
    """Set the system that has this text."""
    return take_system(held, parse_system(text), None)


def set_cache(held, text):
    """Set a cache system."""
    pages, capacity = read_numbers(text)
    return take_system(held, cache_system(pages, capacity), ("cache", pages, capacity))


def set_list(held, text):
    """Set a list system."""
    items = read_number(text)
    return take_system(held, list_system(items), ("list", items))


def set_servers(held, text):
    """Set a server system."""
    last, servers = read_numbers(text)
    return take_system(held, server_system(last, servers), ("servers", last, servers))


def take_system(held, system, instance):
    """Set the system, with its instance or None, and remove all that belonged to the system before."""
    held["system"] = system
    held["instance"] = instance
    held["offline"] = None
    held["policy"] = None
    held["service"] = None
    return DONE


def set_offline(held, text):
    """Set the offline system that has this text, or remove it."""
    offline = None if text == NO_TEXT else offline_for(held["system"], parse_system(text))
    held["offline"] = offline
    held["service"] = None
    return DONE


def set_policy(held, text):
    """Set the policy that has this text."""
    return take_policy(held, parse_policy(held["system"], text))


def use_word(held, text):
    """Set the policy of this name for the instance."""
    if text == "":
        raise ParseError("an empty word")
    return take_policy(held, policy_of_instance(held["instance"], text))


def policy_of_instance(instance, word):
    """Return the policy of this name for the instance."""
    if instance[0] == "cache":
        return cache_policy(instance[1], instance[2], word)
    if instance[0] == "list":
        return list_policy(instance[1], word)
    return server_policy(instance[1], instance[2], word)


def take_policy(held, policy):
    """Set the policy and remove the service."""
    held["policy"] = policy
    held["service"] = None
    return DONE


def tell_optimum(held, text):
    """Return the optimum of the sequence."""
    return str(optimum(held["system"], parse_numbers(text)))


def tell_best(held, text):
    """Return the smallest optimal schedule for the sequence."""
    return format_numbers(best_schedule(held["system"], parse_numbers(text)))


def tell_cost(held, text):
    """Return the cost of the policy for the sequence."""
    return str(run_cost(held["system"], held["policy"], parse_numbers(text)))


def tell_ratio(held, text):
    """Return the ratio of the policy; the text is empty."""
    return format_ratio(ratio_of(held["system"], held["policy"], offline=held["offline"]))


def tell_surcharge(held, text):
    """Return the surcharge of the policy for the ratio."""
    return format_ratio(surcharge_of(held["system"], held["policy"], parse_ratio(text), offline=held["offline"]))


def tell_value(held, text):
    """Return the value of the system for the look-ahead."""
    return format_ratio(value_of(held["system"], offline=held["offline"], lookahead=read_number(text)))


def start_service(held, text):
    """Begin a service; the text is empty."""
    held["service"] = Service(held["system"], held["policy"], offline=held["offline"])
    return DONE


def arrive_request(held, text):
    """Let the request arrive at the service."""
    return str(held["service"].arrive(read_number(text)))


def finish_requests(held, text):
    """Finish at the service; the text is empty."""
    return str(held["service"].finish())


def undo_operations(held, text):
    """Undo so many operations of the service."""
    return str(held["service"].undo(count=read_number(text)))


def tell_status(held, text):
    """Return the text of the service; the text of the command is empty."""
    return str(held["service"])


def tell_slack(held, text):
    """Return the slack of the service; the text of the command is empty."""
    slack = held["service"].slack()
    return NO_TEXT if slack is None else format_ratio(slack)


ACTIONS = {
    "system": set_system, "cache": set_cache, "list": set_list, "servers": set_servers, "offline": set_offline,
    "policy": set_policy, "use": use_word, "optimum": tell_optimum, "best": tell_best, "cost": tell_cost,
    "ratio": tell_ratio, "surcharge": tell_surcharge, "value": tell_value, "start": start_service,
    "arrive": arrive_request, "finish": finish_requests, "undo": undo_operations, "status": tell_status,
    "slack": tell_slack,
}

# How many words each command has behind the first one; None means at least one.
PARTS = {
    "system": None, "cache": 2, "list": 1, "servers": 2, "offline": None, "policy": None, "use": 1, "optimum": None,
    "best": None, "cost": None, "ratio": 0, "surcharge": 1, "value": 1, "start": 0, "arrive": 1, "finish": 0,
    "undo": 1, "status": 0, "slack": 0,
}

# What a command needs. A policy is there only with its system, and a service only with both.
NEEDS = {
    "offline": "system", "policy": "system", "use": "instance", "optimum": "system", "best": "system",
    "cost": "policy", "ratio": "policy", "surcharge": "policy", "value": "system", "start": "policy",
    "arrive": "service", "finish": "service", "undo": "service", "status": "service", "slack": "service",
}
