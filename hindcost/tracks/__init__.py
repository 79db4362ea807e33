"""Tracks: what policies pay along requests that arrive one by one, compared with something else."""
