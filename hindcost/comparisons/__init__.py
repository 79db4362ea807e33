"""Comparisons of two policies with one another."""
