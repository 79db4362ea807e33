"""Policies, their runs and their reduced forms."""
