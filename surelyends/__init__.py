"""Decides for procedures that toss coins whether they surely end, and shows it by fractions."""
