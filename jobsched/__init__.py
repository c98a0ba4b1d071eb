"""Schedulers: one machine, many jobs, and who is let go in each tick."""
