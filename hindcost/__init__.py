"""Hindcost: what a policy loses because it does not know the future."""
