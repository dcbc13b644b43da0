"""Means of the prices of runs."""
