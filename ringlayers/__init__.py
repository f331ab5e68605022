"""Ringlayers: rings and arcs laid over one another."""
