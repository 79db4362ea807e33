"""The tests of hindcost."""
