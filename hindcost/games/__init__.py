"""Games between an adversary and a policy, and their values."""
