"""Schedules for a sequence, and the optimum in hindsight."""
