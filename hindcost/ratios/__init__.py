"""Positions, ratios and surcharges of a policy."""
